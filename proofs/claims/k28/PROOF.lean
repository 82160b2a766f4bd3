import PyProof.Rows.All
import Wide.All
import OpenK.AllK
import Wide.FinOn
import KE.KStateDown
import Lean
import HandS.Base
import HandS.Call
import HandS.List
import HandS.Comp
import HandS.Ends
import HandS.Dict
import HandS.Iter
import HandS.Exc
import HandS.TryOnly
import HandS.ExcOwn
import HandS.Words
import HandS.WordsList
import HandS.WordsDict
import HandS.WordsExc
import HandS.Wide
import HandS.IsInst
import HandS.ExcIs
import HandS.Defaults
import HandS.More
import HandS.Star
import HandS.ClsMeth
import HandS.MakeKw
import HandS.MakeKwOnly
import HandS.Conv
import HandS.TupMul
import HandS.TupLe
import HandS.Flow
import HandS.Zip
import HandS.CallLocal
import HandS.Head0
import HandS.Head1
import HandS.Head2
import HandS.HeadEnd
import HandS.HeadHook1
import HandS.HeadHook2
import PyProof.ReprLen
import HandS.Walk
import HandS.Zip0
import HandS.DictComp
import HandS.OwnEq
import OpenK.KOps
import HandS.ExcField
import HandS.ExcInit
import KE.KExcIs
import HandS.Deep
import PyProof.EqKinds
import PyProof.FactsAll.dict
import PyProof.InstEq
import HandS.TupAny
import HandS.Style
import HandS.Codes
import HandS.Text
import HandS.Steps
import PyProof.StrLawsRepr
import PySem.Challenge.RW_sampleweave_k28_equal_and_long
set_option Elab.async false
set_option linter.all false
set_option maxRecDepth 100000
set_option maxHeartbeats 0
namespace L2
open PySem PySem.Spec PyProof.Rows
/-! ## Own words, 1: defs that are called where no repr is under way -/
/-- as FnOk, but called only while no guard (a repr under way) is around -/
structure FnG (P : Program) (w : World) (K : PySem.W.Frag) (mg : Str → Option Value) (base : Heap) (CX : CXT) (k : Nat) (f : Addr) (fd : FuncData) (ps : List Str) (sp : Sp) : Prop where
  size : ∀ vs H Q E, sp vs H Q E → vs.length = ps.length
  goes : ∀ (A : Around) (outer : List Env) (s : Shared) (H : Hp) (args : Args) (us : List Value) (vs : List V) (Q : VK) (E : XK), Room k A → A.guards = some [] → Env0 P w K mg base A outer s H →
    BindsTo s fd args (ps.zip us) → Vals vs us → sp vs H Q E → codeAny (model P w) A (.call (.ref f) args) (CR CX outer P w H s Q E) s
section
variable {P : Program} {w : World} {K : PySem.W.Frag} {mg : Str → Option Value} {base : Heap} {CX : CXT} {k : Nat} {f : Addr} {fd : FuncData} {ps N : List Str} {sp : Sp} {x qual : Str} {params : Arguments} {body : List Stmt} {scope : Scope} {dvs : List V} {kws : List (Str × V)}
/-- a def's body, where the guards are known -/
theorem FunD.okG (F : FunD K x qual params body scope dvs kws f fd) (S : FnScope N ps scope) (size : ∀ vs H Q E, sp vs H Q E → vs.length = ps.length)
    (does : ∀ (cdv : Value) (A : Around) (outer : List Env) (s : Shared) (H : Hp) (vs : List V) (Q : VK) (E : XK), Room k (A.deeper (envOfC qual scope s.heap.objs.size f cdv)) → A.guards = some [] → sp vs H Q E →
      ∃ t, PSs (cxOf CX P w K mg base N qual scope f cdv A outer s H E) body t ∧ t { nx := fun _ H' => Q .non H', rt := Q } (start N vs) H) : FnG P w K mg base CX (k + 1) f fd ps sp := by
  obtain ⟨oc, od, dV, kV, doc, pm, an, cdv, ct, osl, rfl, lk, hcd, _, _⟩ := F.ex
  refine ⟨size, fun A outer s H args us vs Q E room guard env bind rel prom => ?_⟩
  have only : StX.Bnd CX P w K mg base (PySem.W.fnOf x qual params body scope dV kV doc pm an cdv ct) args ps A outer s H E (fun vs' H' => vs' = vs ∧ H' = H) :=
    fun A' Ex Q' h' => bind _ _ _ _ (h' s H vs us env Un.refl rfl (fun _ _ z => z) rel (size _ _ _ _ prom) ⟨rfl, rfl⟩)
  refine StX.run_bnd (k := k) lk hcd S room env only fun s2 H2 vs2 same room2 => ?_
  obtain ⟨rfl, rfl⟩ := same
  exact does cdv A outer s2 H2 vs2 Q E room2 guard prom
/-- a plain def is one of these too -/
theorem FnOk.toG (F : FnOk P w K mg base CX k f fd ps sp) : FnG P w K mg base CX k f fd ps sp := ⟨F.len, fun A outer s H args us vs Q E room _ env bind rel prom => F.run A outer s H args us vs Q E room env bind rel prom⟩
end
section
variable {X : Cx} {CX : CXT} {k i : Nat} {f : Addr} {fd : FuncData} {ps : List Str} {sp : Sp} {dvs : List V} {ds : List Value} {E : XK} {x : Str} {p pos : Pos} {e : Expr} {es : List Expr} {t : TA}
theorem goes_fn {pins : List (Addr × Obj)} {σ : St} {H : Hp} {s : Shared} {Q : VK} {us : List Value} {vs : List V} (F : FnG X.prog X.w X.K X.mg X.base CX k f fd ps sp) (room : Room k X.A) (guard : X.A.guards = some []) (hb : Binds X.K fd ps ds) (hd : Vals dvs ds)
    (hx : Passes CX X E) (I : Inv X pins σ H s) (rel : Vals vs us) (prom : sp (vs ++ dvs) H Q E) : wpAny (model X.prog X.w) X.A (call (.ref f) us) (EP X pins σ Q) X.xe s := by
  have both := rel.append hd
  have many : (us ++ ds).length = ps.length := both.length.symm.trans (F.size _ _ _ _ prom)
  refine wpAny_call (codeAny_mono (F.goes X.A X.stack s H ⟨us, []⟩ (us ++ ds) (vs ++ dvs) Q E room guard I.env0 (hb s us I.kIn many) both prom) ?_)
  rintro (_ | u | _ | _ | _ ) s' z
  all_goals first
    | exact hx pins σ H s _ s' I z
    | exact I.after z
    | exact z.elim
theorem pe_callG (F : FnG X.prog X.w X.K X.mg X.base CX k f fd ps sp) (room : Room k X.A) (guard : X.A.guards = some []) (hg : Gl X x) (hm : X.mg x = some (.ref f)) (hk : PySem.W.keepIn X.K (.ref f) = true) (hb : Binds X.K fd ps ds) (hd : Vals dvs ds)
    (hx : Passes CX X E) (ha : PA X (e :: es) t) (hdb : (x == ("__debug__" : Str)) = false := by decide) (he : starEach (e :: es) X.env = (false, eval e X.env) :: starEach es X.env := by rfl)
    (hpl : (backTo pos (starEach es X.env)).any (·.1) = false := by rfl) : PE X (.Call (.Name x p) (e :: es) [] pos) (tCall sp dvs E t) := by
  refine ⟨fun pins s σ H Q I h => wpAny_Call_Name_kw (ld_glob I hg hm ?_ hdb)⟩
  exact PySem.W.callWith_K (h₀ := X.base) I.ok.mod.kin hk (thn (ha.run pos pins s σ H _ I h) fun us s1 ⟨vs, H1, I1, r, q⟩ => ⟨I1.kIn, goes_fn F room guard hb hd hx I1 r q⟩) he hpl
end
/-- the law's call, its def being one of these -/
theorem law_goes {P : Program} {w : World} {K : PySem.W.Frag} {mg mb : Str → Option Value} {CX : CXT} {k : Nat} {fa a : Addr} {fd : FuncData} {x : Str} {sp : Sp} {s₁ : Shared} {vs : List Value} {ns : List Int}
    (inK : K.In s₁.heap) (glob : s₁.heap.Ns mainGlobals mg) (blt : s₁.heap.Ns builtinsNs mb) (boot : ∀ x : Str, x ≠ "__name__" → mb x = bootBuiltins x) (lim : s₁.heap.NoLimit) (gens : s₁.gens = #[])
    (scr : s₁.heap.get? a = some { cls := .type "list", data := .seq vs.toArray }) (nums : IntsAre vs ns) (few : ns.length ≤ sizeLine) (room : Room k callerA)
    (F : ∀ base : Heap, K.In base → base.Ns mainGlobals mg → FnG P w K mg base CX k fa fd [x] sp) (bind : ∀ (s : Shared) (u : Value), BindsTo s fd ⟨[u], []⟩ [(x, u)])
    (prom : ∀ H : Hp, Only H → SqL K H a (ns.map V.int) → sp [.ref a] H (fun v _ => v = .bl true) fun _ _ _ => False) (none_out : ∀ H e s', CX [] H s₁ (fun _ _ _ => False) e s' → False) :
    codeAny (model P w) callerA (.call (.ref fa) ⟨[.ref a], []⟩) (fun r s' => r = .ok (.ret (.bool true)) ∧ OldK s₁.heap s'.heap ∧ s'.os = s₁.os ∧ AllBare s'.gens) s₁ := by
  have rel := vals_ints nums
  have from_heap : ∀ H : Hp, (∀ b, H b = none ∨ (b = a ∧ K.lookup a = none ∧ H b = some (.frz { cls := .type "list", data := .seq vs.toArray } (.lst (ns.map V.int))))) → SqL K H a (ns.map V.int) →
      codeAny (model P w) callerA (.call (.ref fa) ⟨[.ref a], []⟩) (fun r s' => r = .ok (.ret (.bool true)) ∧ OldK s₁.heap s'.heap ∧ s'.os = s₁.os ∧ AllBare s'.gens) s₁ := by
    intro H which seen
    have small : Only H := fun b => (which b).imp id fun z => ⟨_, _, z.2.2⟩
    have space : ∀ {b : Addr} {m : Str → Option Value}, s₁.heap.Ns b m → (hidT s₁.heap H).Ns b m := by
      rintro b m ⟨o, es, ep, e, d, r⟩
      refine ⟨o, es, ep, hidT_get e ((which b).resolve_right fun ⟨eb, _⟩ => ?_), d, r⟩
      rw [eb, scr] at e
      cases e
      cases d
    have written : K.In (hidT s₁.heap H) := fun b o e => hidT_get (inK b o e) ((which b).resolve_right fun ⟨eb, n, _⟩ => by
      rw [eb, n] at e
      cases e)
    have fits : HOk P w H s₁.heap := fun b u z => by
      rcases which b with n | ⟨rfl, _, n⟩
      · rw [n] at z
        cases z
      · rw [n] at z
        cases z
        exact ⟨scr, by rw [List.length_map]; exact few, vs, _, rel, scr⟩
    obtain ⟨mc, c1, c2⟩ := lim
    have env : Env0 P w K mg (hidT s₁.heap H) callerA [] s₁ H :=
      ⟨rfl, ⟨written, space glob, ⟨mb, space blt, boot⟩, mc, space c1, c2⟩, fun _ _ e => of_hidT e, Nat.le_of_eq (hidT_size _ _), trivial, fun _ z => (List.not_mem_nil z).elim, fits, .of_eq gens⟩
    refine codeAny_mono ((F _ written (space glob)).goes callerA [] s₁ H ⟨[.ref a], []⟩ [.ref a] [.ref a] _ _ room rfl env (bind s₁ (.ref a)) (.cons rfl .nil) (prom H small seen)) ?_
    intro res s' z
    match res, z with
    | .error e, z => exact (none_out H e s' z).elim
    | .ok .next, z => exact z.elim
    | .ok .brk, z => exact z.elim
    | .ok .cont, z => exact z.elim
    | .ok (.ret u), z =>
      obtain ⟨v, H', os, bare, un, fits', rv, (rfl : v = V.bl true)⟩ := z
      obtain rfl : u = Value.bool true := rv
      refine ⟨rfl, OldK.of_keep fun b o e => ?_, os, bare⟩
      rcases which b with n | ⟨_, _, n⟩
      · exact un.keep b o e n (fun z => (List.not_mem_nil z).elim) List.not_mem_nil
      · obtain ⟨e1, _⟩ := fits b _ n
        obtain ⟨e2, _⟩ := fits' b _ (un.frzs b _ _ n)
        rw [e] at e1
        cases e1
        exact e2
  by_cases own : K.lookup a = none
  · refine from_heap (fun b => if b = a then some (.frz { cls := .type "list", data := .seq vs.toArray } (.lst (ns.map V.int))) else none) (fun b => ?_) (.inl (.inr ⟨_, if_pos rfl⟩))
    by_cases eb : b = a
    · exact .inr ⟨eb, own, if_pos eb⟩
    · exact .inl (if_neg eb)
  · obtain ⟨o, own⟩ := Option.ne_none_iff_exists'.mp own
    have e := inK a o own
    rw [scr] at e
    cases e
    exact from_heap (fun _ => none) (fun _ => .inl rfl) (.inr ⟨_, vs.toArray, _, own, rfl, rfl, rfl, by rw [List.size_toArray, nums.length]; exact few, by simpa using rel⟩)
theorem walk_goes {l : PySem.W.OpenLaw} {n k : Nat} {q : Program} {loose : List Str} {XP : (Str → Option Value) → Heap → Prop} {YP : World → Heap → Prop} {d : DefRec} {CX : CXT} {x : Str}
    (most : l.most = some n) (few : n ≤ sizeLine) (nodef : d.params.defaults = []) (room : Room k callerA)
    (F : ∀ (w : World) (mg : Str → Option Value) (fa : Addr) (h : Heap), YP w h → h.Ns mainGlobals mg → mg d.name = some (.ref fa) →
      ∃ (K : PySem.W.Frag) (fd : FuncData) (sp : Sp), K.In h ∧ (∀ (s : Shared) (u : Value), BindsTo s fd ⟨[u], []⟩ [(x, u)]) ∧
        (∀ (H : Hp) (a : Addr) (ns : List Int), ns.length ≤ n → Only H → SqL K H a (ns.map V.int) → sp [.ref a] H (fun v _ => v = .bl true) fun _ _ _ => False) ∧
        ∀ base : Heap, K.In base → base.Ns mainGlobals mg → FnG l.prog w K mg base CX k fa fd [x] sp)
    (none_out : ∀ (H : Hp) (s : Shared) (e : Value) (s' : Shared), CX [] H s (fun _ _ _ => False) e s' → False) : PySem.W.WalkO q loose XP YP l.row.toRowW d [] (fun f vs => PySem.call f vs) := by
  refine Att.attach_call most nodef ?_
  intro w s₀ s₁ mg mb fa o pm cd doc a vs ns G Y ho hd hcd named obj nums len gens
  obtain ⟨K, fd, sp, inK, bind, prom, does⟩ := F w mg fa _ Y G.T.g named
  exact law_goes inK G.T.g G.T.b G.T.builtins G.T.nolimit gens obj nums (Nat.le_trans len few) room does bind (fun H hO hS => prom H a ns len hO hS) fun H e s' => none_out H s₁ e s'
end L2
namespace L2
open PySem PySem.Spec PyProof.Rows
/-! ## Own words, 2: repr of data; a base class's def called by the class's name -/
section
variable {X : Cx}
/-- repr(x), x a list or a tuple of data -/
def rReprD (K : PySem.W.Frag) : List V → Hp → VK → Prop := fun xs H Q => ∃ (a : Addr) (d : PyData) (S : Str), xs = [.ref a] ∧ Dp K H (.ref a) d ∧ SeqAt.shaped d = true ∧ d.showable = true ∧ d.shown.length ≤ sizeLine ∧ d.shown = S ∧ Q (.str S) H
theorem call_reprD (guard : X.A.guards = some []) (units : X.A.units + 66 < cLine) : CallR X (.builtin "repr") (rReprD X.K) := by
  intro pins s σ H xs us Q I r h
  obtain ⟨a, d, S, rfl, dp, sh, sw, sz, rfl, q⟩ := h
  obtain ⟨u, rfl, ru⟩ := vals1 r
  obtain rfl : u = Value.ref a := ru
  obtain ⟨as, rd⟩ := Dp.reads I d _ _ dp rfl
  have dep := SeqAt.depth_of_shaped sh
  exact repr_of_reads' rd sw (PyData.noDict_hsm (PyData.hasDict_of_canLay d (SeqAt.canLay_of_shaped sh))) guard (by omega) (fun _ _ e => e) (fun h' u tk hk => ⟨.str d.shown, H, I.kept (t' := tk) hk, ⟨u, rfl⟩, q⟩) sz
/-- C.m(e, ..), C a class of one's own by name, m a def of its body -/
structure BaseM (K : PySem.W.Frag) (C : Addr) (m : Str) (f : Addr) : Prop where
  rd : PySem.W.readsIn K C (.type "type") = true
  ga : PySem.W.specialIn K (.ref C) "__getattribute__" = some (some (.builtin "type.__getattribute__"))
  at_ : PySem.W.findCls K (.ref C) (.type "type") m = some (.val (.ref f))
  kp : PySem.W.keepIn K (.ref f) = true
variable {CX : CXT} {k : Nat} {f C : Addr} {fd : FuncData} {ps : List Str} {sp : Sp} {dvs : List V} {ds : List Value} {E : XK} {x m : Str} {p pos apos : Pos} {e o : Expr} {es : List Expr} {ta : TE} {t : TA}
def tBase (C : Addr) (sp : Sp) (dvs : List V) (E : XK) (ta : TE) (t : TA) : TE := fun σ H Q => ta σ H fun x H1 => x = .ref C ∧ t σ H1 fun vs H2 => sp (vs ++ dvs) H2 Q E
theorem pe_base {pl : Sem Bool} (ho : PE X o ta) (b : BaseM X.K C m f) (F : FnOk X.prog X.w X.K X.mg X.base CX k f fd ps sp) (room : Room k X.A) (hb : Binds X.K fd ps ds) (hd : Vals dvs ds) (hx : Passes CX X E) (ha : PA X (e :: es) t)
    (hst : starEach (e :: es) X.env = (false, eval e X.env) :: starEach es X.env := by rfl) (hpl : (backTo pos (starEach es X.env)).any (·.1) = false := by rfl)
    (ht : eval (.Call (.Attribute o m apos) (e :: es) [] pos) X.env = (do
      let ov ← eval o X.env
      standAt apos.atName
      let (f, first) ← holding [ov] (getMethod ov m pl)
      callWith pos f first (backTo pos (starEach (e :: es) X.env)) (backToKw pos (keywordEach [] X.env))) := by rfl) :
    PE X (.Call (.Attribute o m apos) (e :: es) [] pos) (tBase C sp dvs E ta t) := by
  refine ⟨fun pins s σ H Q I h => ?_⟩
  refine PySem.W.methodCall_KW (pl := pl) (thn (ho.run pins s σ H _ I h) fun u s1 ⟨x, H1, I1, rx, ex, q⟩ => ?_) ht
  subst ex
  obtain rfl : u = Value.ref C := rx
  refine PySem.W.method_cls I1.kIn b.ga (PySem.W.cls_value I1.kIn b.rd b.at_ rfl ?_)
  have I2 := I1.tok (s1.toks + 1)
  exact PySem.W.callWith_K (first := []) (h₀ := X.base) I.ok.mod.kin b.kp (thn (ha.run pos pins _ σ H1 _ I2 q) fun us s2 ⟨vs, H2, I3, r, q2⟩ => ⟨I3.kIn, run_fn F room hb hd hx I3 r q2⟩) hst hpl
end
/-! ### how long a repr is -/
theorem shown_sum {B : Nat} : ∀ ds : List PyData, (∀ d ∈ ds, d.shown.length ≤ B) → ((PyData.shownAll ds).map (·.length)).sum ≤ B * ds.length
  | [], _ => by rw [PyData.shownAll]; exact Nat.zero_le _
  | d :: ds, h => by
    have h1 := h d List.mem_cons_self
    have h2 := shown_sum ds fun z hz => h z (List.mem_cons_of_mem _ hz)
    rw [PyData.shownAll, List.map_cons, List.sum_cons, List.length_cons, Nat.mul_succ]
    omega
theorem shown_list {B : Nat} {ds : List PyData} (h : ∀ d ∈ ds, d.shown.length ≤ B) : (PyData.shown (.list ds)).length ≤ (B + 2) * ds.length + 3 := by
  have h1 := shown_sum ds h
  have h2 := listText_len_le (PyData.shownAll ds)
  rw [PyData.shownAll_length] at h2
  rw [PyData.shown, Nat.add_mul]
  omega
theorem shown_tuple {B : Nat} {ds : List PyData} (h : ∀ d ∈ ds, d.shown.length ≤ B) : (PyData.shown (.tuple ds)).length ≤ (B + 2) * ds.length + 3 := by
  have h1 := shown_sum ds h
  have h2 := tupleText_len_le (PyData.shownAll ds)
  rw [PyData.shownAll_length] at h2
  rw [PyData.shown, Nat.add_mul]
  omega
theorem shown_num {i : Int} (h : i.natAbs.log2 < 1920) : (PyData.shown (.int i)).length ≤ 1921 := by
  exact int_text_len_1921 h
theorem log2_of {i : Int} {b : Nat} (h : i.natAbs < 2 ^ b) (h0 : 0 < b) (h1 : b ≤ 1920) : i.natAbs.log2 < 1920 := Nat.lt_of_lt_of_le (PySem.Flt.log2_lt_of h0 h) h1
end L2
namespace L2
open PySem PySem.Spec PyProof.Rows
/-! ## Own words, 3: a method called in a try; a local that holds one of some defs -/
section
variable {X : Cx} {CX : CXT} {k i : Nat} {f C : Addr} {fd : FuncData} {ps : List Str} {sp : Sp} {E : St → XK} {x m : Str} {p pos apos : Pos} {e o : Expr} {es : List Expr} {ta : TE} {t : TA}
def tMethT (C : Addr) (m : Str) (sp : Sp) (E : St → XK) (ta : TE) (t : TA) : TE := fun σ H Q => ta σ H fun x H1 => ∃ a dx fs, x = .ref a ∧ H1 a = some (.ins C dx fs) ∧ fs.lookup m = none ∧ t σ H1 fun vs H2 => sp (x :: vs) H2 Q (E σ)
theorem pe_methT {pl : Sem Bool} (ho : PE X o ta) (c : Cls X.K C) (hm : Meth X.K C m f) (F : FnOk X.prog X.w X.K X.mg X.base CX k f fd ps sp) (room : Room k X.A) (hb : Binds X.K fd ps []) (hx : ∀ σ, PassesAt CX X σ (E σ)) (ha : PA X (e :: es) t)
    (hst : starEach (e :: es) X.env = (false, eval e X.env) :: starEach es X.env := by rfl) (hpl : (backTo pos (starEach es X.env)).any (·.1) = false := by rfl)
    (ht : eval (.Call (.Attribute o m apos) (e :: es) [] pos) X.env = (do
      let ov ← eval o X.env
      standAt apos.atName
      let (f, first) ← holding [ov] (getMethod ov m pl)
      callWith pos f first (backTo pos (starEach (e :: es) X.env)) (backToKw pos (keywordEach [] X.env))) := by rfl) :
    PE X (.Call (.Attribute o m apos) (e :: es) [] pos) (tMethT C m sp E ta t) := by
  refine ⟨fun pins s σ H Q I h => ?_⟩
  refine PySem.W.methodCall_KW (pl := pl) (thn (ho.run pins s σ H _ I h) fun u s1 ⟨x, H1, I1, rx, a, dx, fs, ex, ea, l, q⟩ => ?_) ht
  subst ex
  obtain rfl : u = Value.ref a := rx
  refine getmeth_ok I1 ea c hm l (PySem.W.callWith_K (first := [.ref a]) (h₀ := X.base) I.ok.mod.kin hm.kp (thn (ha.run pos pins s1 σ H1 _ I1 q) fun us s2 ⟨vs, H2, I2, r, q2⟩ => ⟨I2.kIn, ?_⟩) hst hpl)
  exact run_fnS (us := .ref a :: us) (vs := .ref a :: vs) F room hb (hx σ) I2 (.cons rfl r) q2
/-- the i-th slot holds one of these defs, all of one promise -/
def tOneOf (i : Nat) (fs : List Addr) (sp : Sp) (t : TA) : TE := fun σ H Q => ∃ f, f ∈ fs ∧ σ[i]? = some (some (.ref f)) ∧ t σ H fun vs H1 => sp vs H1 Q E0
theorem pe_oneOf {fs : List Addr} (F : ∀ f, f ∈ fs → ∃ fd ps, FnG X.prog X.w X.K X.mg X.base CX0 k f fd ps sp ∧ PySem.W.keepIn X.K (.ref f) = true ∧ Binds X.K fd ps []) (room : Room k X.A) (guard : X.A.guards = some []) (hN : X.N[i]? = some x) (hv : Vis X.env.scope x) (ha : PA X (e :: es) t)
    (hdb : (x == ("__debug__" : Str)) = false := by decide) (hcd : (x == ("__classdict__" : Str)) = false := by decide) (he : starEach (e :: es) X.env = (false, eval e X.env) :: starEach es X.env := by rfl)
    (hpl : (backTo pos (starEach es X.env)).any (·.1) = false := by rfl) : PE X (.Call (.Name x p) (e :: es) [] pos) (tOneOf i fs sp t) := by
  refine ⟨fun pins s σ H Q I h => ?_⟩
  obtain ⟨f, hf, hs, q0⟩ := h
  obtain ⟨fd, ps, G, kp, hb⟩ := F f hf
  have look := (pe_var (pos := p) hN hv hdb hcd).run pins s σ H (fun v H1 => v = .ref f ∧ H1 = H) I ⟨.ref f, hs, rfl, rfl⟩
  refine wpAny_Call_Name_kw (thn look fun u s1 ⟨v, H1, I1, r1, ev, eH⟩ => ?_)
  subst ev eH
  obtain rfl : u = Value.ref f := r1
  refine PySem.W.callWith_K (h₀ := X.base) I.ok.mod.kin kp (thn (ha.run pos pins s1 σ _ _ I1 q0) fun us s2 ⟨vs, H2, I2, r, q⟩ => ⟨I2.kIn, ?_⟩) he hpl
  exact goes_fn (dvs := []) (E := E0) G room guard hb .nil pass0 I2 r (by rw [List.append_nil]; exact q)
end
end L2
namespace L2
open PySem PySem.Spec PyProof.Rows
/-! ## Own words, 4: a tuple times 0 or 1 -/
theorem tup_once (l : Addr) (items : Array Value) (n : Nat) (dd : Option Addr) (sl : Array (Option Value)) (u : Tok) :
    Meets (Builtin.«tuple.__mul__» ⟨[.ref l, .int 1 u], []⟩) (fun _ R s => s.heap.get? l = some { cls := .type "tuple", dict := dd, data := .seq items n, slots := sl } ∧ R (.ok (.ret (Value.ref l))) s) :=
  .of_wp fun prog w A R s h => by
    obtain ⟨hp, g, d, tk, os⟩ := s
    obtain ⟨at_, h⟩ := h
    have f1 := AutoSeq1.idx_int
    wp_walk using wpAny_loadPart' at_
    exact ⟨_, rfl, h⟩
theorem tup_never (l : Addr) (items : Array Value) (n : Nat) (dd : Option Addr) (sl : Array (Option Value)) (u : Tok) (c1 : items.isEmpty = false) :
    Meets (Builtin.«tuple.__mul__» ⟨[.ref l, .int 0 u], []⟩) (fun _ R s => s.heap.get? l = some { cls := .type "tuple", dict := dd, data := .seq items n, slots := sl } ∧ R (.ok (.ret (Value.ref s.heap.objs.size))) { s with heap := s.heap.push { cls := Value.type "tuple", data := Data.seq #[] }, toks := s.toks }) :=
  .of_wp fun prog w A R s h => by
    obtain ⟨hp, g, d, tk, os⟩ := s
    obtain ⟨at_, h⟩ := h
    have f1 := AutoSeq1.idx_int
    wp_walk using wpAny_loadPart' at_
    exact ⟨_, rfl, h⟩
/-- t * k, t a tuple that holds something, k from 0 on -/
def rTimes (K : PySem.W.Frag) : R2 := fun x y H Q => ∃ (l : Addr) (k : Nat) (xs : List V), x = .ref l ∧ y = .int (k : Int) ∧ SqT K H l xs ∧ xs ≠ [] ∧ k ≤ 1000 ∧ xs.length ≤ 1000 ∧ (k = 1 → Q (.ref l) H) ∧ (k ≠ 1 → ∀ p, H p = none → Q (.ref p) (upd H p (.tup (List.replicate k xs).flatten)))
theorem op_times {X : Cx} : OpR X (binaryOp .Mult) (rTimes X.K) := by
  intro pins s σ H x y v u Q I rx ry h
  obtain ⟨l, k, xs, rfl, rfl, hT, hne, h2, hz, q1, qn⟩ := h
  by_cases two : 2 ≤ k
  · exact op_repT pins s σ H _ _ v u Q I rx ry ⟨l, (k : Int), xs, rfl, rfl, hT, hne, by omega, by omega, hz, fun p hp => qn (by omega) p hp⟩
  · cases rx
    obtain ⟨t, rfl⟩ := ry
    obtain ⟨its, r, ⟨⟨cls, dd, data, sl⟩, ho, hc, n, hd⟩, hs⟩ := I.tuple hT
    simp only at hc hd
    subst hc hd
    have which : k = 0 ∨ k = 1 := by omega
    rcases which with rfl | rfl
    · have some_ : its.toArray.isEmpty = false := by
        cases its with
        | nil =>
          have e := r.length
          cases xs with
          | nil => exact absurd rfl hne
          | cons _ _ => cases e
        | cons _ _ => rfl
      refine wpAny_binaryOp_repeat_ref (T := "tuple") (U := "int") (by decide) ⟨_, ho, rfl⟩ (fun s' => typeIs_int s' 0 t) noFill_tuple_mul F.fills_int_mul F.slot_int_rmul repeat_tuple F.slot_int_index.lookup ?_
      refine call_meets F.slot_int_rmul (typeIs_int s 0 t) F.entry_int_rmul (F.args_int_rmul_2 _ _) (int_rmul_tuple 0 t l its.toArray n dd sl) ⟨ho, rfl, ⟨_, ho, rfl⟩, ?_⟩
      refine call_meets F.slot_tuple_mul ⟨_, ho, rfl⟩ F.entry_tuple_mul (F.args_tuple_mul_2 _ _) (tup_never l its.toArray n dd sl t some_) ⟨ho, ?_⟩
      have fresh := I.hok.fresh (Nat.le_refl s.heap.objs.size)
      refine ⟨.ref s.heap.objs.size, _, I.laid (t' := s.toks) (o := .tup []) (fun b ob q => Heap.get?_push_of_some _ q) (Nat.le_refl _) ?_, rfl, qn (by decide) _ fresh⟩
      exact ⟨Nat.zero_le _, [], .nil, IsTup.new _ _⟩
    · refine wpAny_binaryOp_repeat_ref (T := "tuple") (U := "int") (by decide) ⟨_, ho, rfl⟩ (fun s' => typeIs_int s' 1 t) noFill_tuple_mul F.fills_int_mul F.slot_int_rmul repeat_tuple F.slot_int_index.lookup ?_
      refine call_meets F.slot_int_rmul (typeIs_int s 1 t) F.entry_int_rmul (F.args_int_rmul_2 _ _) (int_rmul_tuple 1 t l its.toArray n dd sl) ⟨ho, rfl, ⟨_, ho, rfl⟩, ?_⟩
      refine call_meets F.slot_tuple_mul ⟨_, ho, rfl⟩ F.entry_tuple_mul (F.args_tuple_mul_2 _ _) (tup_once l its.toArray n dd sl t) ⟨ho, ?_⟩
      exact ⟨.ref l, H, I, rfl, q1 rfl⟩
end L2
namespace L2
open PySem PySem.Spec PyProof.Rows
/-! ## Own words, 5: one of two promises; the call of a value -/
section
variable {P : Program} {w : World} {K : PySem.W.Frag} {mg : Str → Option Value} {base : Heap} {CX : CXT} {k : Nat} {f : Addr} {fd : FuncData} {ps : List Str} {sp sp' : Sp}
theorem FnG.or (F : FnG P w K mg base CX k f fd ps sp) (F' : FnG P w K mg base CX k f fd ps sp') : FnG P w K mg base CX k f fd ps (fun vs H Q E => sp vs H Q E ∨ sp' vs H Q E) := by
  refine ⟨fun vs H Q E h => h.elim (F.size vs H Q E) (F'.size vs H Q E), fun A outer s H args us vs Q E room guard env bind rel h => ?_⟩
  rcases h with h | h
  · exact F.goes A outer s H args us vs Q E room guard env bind rel h
  · exact F'.goes A outer s H args us vs Q E room guard env bind rel h
theorem FnOk.or (F : FnOk P w K mg base CX k f fd ps sp) (F' : FnOk P w K mg base CX k f fd ps sp') : FnOk P w K mg base CX k f fd ps (fun vs H Q E => sp vs H Q E ∨ sp' vs H Q E) := by
  refine ⟨fun vs H Q E h => h.elim (F.len vs H Q E) (F'.len vs H Q E), fun A outer s H args us vs Q E room env bind rel h => ?_⟩
  rcases h with h | h
  · exact F.run A outer s H args us vs Q E room env bind rel h
  · exact F'.run A outer s H args us vs Q E room env bind rel h
end
section
variable {X : Cx} {k : Nat} {sp : Sp} {pos : Pos} {fe e : Expr} {es : List Expr} {tf : TE} {t : TA}
def tCallOf (fs : List Addr) (sp : Sp) (tf : TE) (t : TA) : TE := fun σ H Q => tf σ H fun y H1 => ∃ f, f ∈ fs ∧ y = .ref f ∧ t σ H1 fun vs H2 => sp vs H2 Q E0
theorem pe_callOf {fs : List Addr} (hf : PE X fe tf) (F : ∀ f, f ∈ fs → ∃ fd ps, FnOk X.prog X.w X.K X.mg X.base CX0 k f fd ps sp ∧ PySem.W.keepIn X.K (.ref f) = true ∧ Binds X.K fd ps []) (room : Room k X.A) (ha : PA X (e :: es) t)
    (ht : eval (.Call fe (e :: es) [] pos) X.env = (do callWith pos (← eval fe X.env) [] (backTo pos (starEach (e :: es) X.env)) (backToKw pos (keywordEach [] X.env))) := by rfl)
    (he : starEach (e :: es) X.env = (false, eval e X.env) :: starEach es X.env := by rfl) (hpl : (backTo pos (starEach es X.env)).any (·.1) = false := by rfl) : PE X (.Call fe (e :: es) [] pos) (tCallOf fs sp tf t) := by
  refine ⟨fun pins s σ H Q I h => ?_⟩
  refine Call_ (thn (hf.run pins s σ H _ I h) fun u s1 ⟨y, H1, I1, ry, f, hm, ey, q⟩ => ?_) ht
  subst ey
  obtain rfl : u = Value.ref f := ry
  obtain ⟨fd, ps, G, kp, hb⟩ := F f hm
  refine PySem.W.callWith_K (h₀ := X.base) I.ok.mod.kin kp (thn (ha.run pos pins s1 σ H1 _ I1 q) fun us s2 ⟨vs, H2, I2, r, q2⟩ => ⟨I2.kIn, ?_⟩) he hpl
  exact run_fn (dvs := []) (E := E0) G room hb .nil pass0 I2 r (by rw [List.append_nil]; exact q2)
end
end L2
universe u
namespace L2
open PySem PySem.Spec PyProof.Rows
/-! ## Own words, 6: a method of an object of one of some sorts; isinstance against a base class -/
/-- a sort's method and its promise -/
structure MethC (P : Program) (w : World) (K : PySem.W.Frag) (mg : Str → Option Value) (base : Heap) (k : Nat) (m : Str) (ps : List Str) (sp : Sp) (C : Addr) : Prop where
  ex : ∃ f fd, Cls K C ∧ Meth K C m f ∧ FnOk P w K mg base CX0 k f fd ps sp ∧ Binds K fd ps []
section
variable {X : Cx} {k : Nat} {α : Type u} {As : List α} {cl : α → Addr} {sp : α → Sp} {m : Str} {ps : List Str} {pos apos : Pos} {o e : Expr} {es : List Expr} {ta : TE} {t : TA}
def tMethOf (As : List α) (cl : α → Addr) (m : Str) (sp : α → Sp) (ta : TE) (t : TA) : TE := fun σ H Q => ta σ H fun x H1 => ∃ (A : α) (a dx : Addr) (fs : List (Str × V)), A ∈ As ∧ x = .ref a ∧ H1 a = some (.ins (cl A) dx fs) ∧ fs.lookup m = none ∧ t σ H1 fun vs H2 => sp A (x :: vs) H2 Q E0
theorem pe_methOf {pl : Sem Bool} (he : PE X o ta) (F : ∀ A, A ∈ As → MethC X.prog X.w X.K X.mg X.base k m ps (sp A) (cl A)) (hr : Room k X.A) (ha : PA X (e :: es) t)
    (hst : starEach (e :: es) X.env = (false, eval e X.env) :: starEach es X.env := by rfl) (hpl : (backTo pos (starEach es X.env)).any (·.1) = false := by rfl)
    (ht : eval (.Call (.Attribute o m apos) (e :: es) [] pos) X.env = (do
      let ov ← eval o X.env
      standAt apos.atName
      let (f, first) ← holding [ov] (getMethod ov m pl)
      callWith pos f first (backTo pos (starEach (e :: es) X.env)) (backToKw pos (keywordEach [] X.env))) := by rfl) :
    PE X (.Call (.Attribute o m apos) (e :: es) [] pos) (tMethOf As cl m sp ta t) := by
  refine ⟨fun pins s σ H Q I h => ?_⟩
  refine PySem.W.methodCall_KW (pl := pl) (thn (he.run pins s σ H _ I h) fun u s1 ⟨x, H1, I1, rx, A, a, dx, fs, hA, ex, ea, l, q⟩ => ?_) ht
  subst ex
  obtain rfl : u = Value.ref a := rx
  obtain ⟨f, fd, c, hm, G, hb⟩ := (F A hA).ex
  refine getmeth_ok I1 ea c hm l ?_
  refine PySem.W.callWith_K (first := [.ref a]) (h₀ := X.base) I.ok.mod.kin hm.kp (thn (ha.run pos pins s1 σ H1 _ I1 q) fun us s2 ⟨vs, H2, I2, r, q2⟩ => ⟨I2.kIn, ?_⟩) hst hpl
  exact run_fn (us := .ref a :: us) (vs := .ref a :: vs) (dvs := []) (E := E0) G hr hb .nil pass0 I2 (.cons rfl r) (by rw [List.append_nil]; exact q2)
theorem pe_methOf0 {pl : Sem Bool} (he : PE X o ta) (F : ∀ A, A ∈ As → MethC X.prog X.w X.K X.mg X.base k m ps (sp A) (cl A)) (hr : Room k X.A)
    (ht : eval (.Call (.Attribute o m apos) [] [] pos) X.env = (do
      let ov ← eval o X.env
      standAt apos.atName
      let (f, first) ← holding [ov] (getMethod ov m pl)
      callWith pos f first (backTo pos (starEach [] X.env)) (backToKw pos (keywordEach [] X.env))) := by rfl) :
    PE X (.Call (.Attribute o m apos) [] [] pos) (tMethOf As cl m sp ta tNil) := by
  refine ⟨fun pins s σ H Q I h => ?_⟩
  refine PySem.W.methodCall_KW (pl := pl) (thn (he.run pins s σ H _ I h) fun u s1 ⟨x, H1, I1, rx, A, a, dx, fs, hA, ex, ea, l, q⟩ => ?_) ht
  subst ex
  obtain rfl : u = Value.ref a := rx
  obtain ⟨f, fd, c, hm, G, hb⟩ := (F A hA).ex
  refine getmeth_ok I1 ea c hm l ?_
  exact PySem.W.callWith_K0 (first := [.ref a]) I1.kIn hm.kp (run_fn (us := [.ref a]) (vs := [.ref a]) (dvs := []) (E := E0) G hr hb .nil pass0 I1 (.cons rfl .nil) q)
end
section
variable {P : Program} {w : World} {K : PySem.W.Frag} {mg : Str → Option Value} {base : Heap} {CX : CXT} {k : Nat} {f : Addr} {fd : FuncData} {ps : List Str} {α : Type u} {As : List α} {sp : α → Sp}
theorem FnG.any (F : ∀ A, A ∈ As → FnG P w K mg base CX k f fd ps (sp A)) : FnG P w K mg base CX k f fd ps (fun vs H Q E => ∃ A, A ∈ As ∧ sp A vs H Q E) :=
  ⟨fun vs H Q E ⟨A, hA, h⟩ => (F A hA).size vs H Q E h, fun A outer s H args us vs Q E room guard env bind rel ⟨B, hB, h⟩ => (F B hB).goes A outer s H args us vs Q E room guard env bind rel h⟩
end
/-- what isinstance(o, CN) asks of o's class -/
structure InsC (K : PySem.W.Frag) (C CN : Addr) : Prop where
  ha : PySem.W.findIn K (.ref C) "__class__" = some (some (.builtin "object.__class__"))
  hn : PySem.W.specialIn K (.builtin "object.__class__") "__get__" = some (some (.builtin "getset_descriptor.__get__"))
  tk : PySem.W.takesIn K (.builtin "object.__class__") = some true
  mr : PySem.W.mroIn K C (.type "object") = some true
  kit : PySem.W.kitOne K (.ref C) (.ref CN) = some true
def insB (K : PySem.W.Frag) (C CN : Addr) : Bool :=
  decide (PySem.W.findIn K (.ref C) "__class__" = some (some (.builtin "object.__class__"))) && (decide (PySem.W.specialIn K (.builtin "object.__class__") "__get__" = some (some (.builtin "getset_descriptor.__get__"))) &&
  (decide (PySem.W.takesIn K (.builtin "object.__class__") = some true) && (decide (PySem.W.mroIn K C (.type "object") = some true) && decide (PySem.W.kitOne K (.ref C) (.ref CN) = some true))))
theorem insB_ok {K : PySem.W.Frag} {C CN : Addr} (h : insB K C CN = true) : InsC K C CN := by
  obtain ⟨h1, h⟩ := He.ba h
  obtain ⟨h2, h⟩ := He.ba h
  obtain ⟨h3, h⟩ := He.ba h
  obtain ⟨h4, h5⟩ := He.ba h
  exact ⟨of_decide_eq_true h1, of_decide_eq_true h2, of_decide_eq_true h3, of_decide_eq_true h4, of_decide_eq_true h5⟩
theorem InsC.ty {K : PySem.W.Frag} {C CN a dx : Addr} {H : Hp} {fs : List (Str × V)} (i : InsC K C CN) (c : Cls K C) (h : H a = some (.ins C dx fs)) : TyX K H (.ref a) (.ref C) := .base (.ins h c i.ha i.hn i.tk i.mr)
end L2
namespace L2
open PySem PySem.Spec PyProof.Rows
/-! ## Own words, 7: rules whose written part is given (within comprehensions) -/
section
variable {X : Cx} {K : PySem.W.Frag} {tg l e : Expr} {tl ta : TE} {f : Str} {pos : Pos}
theorem pe_fldK (h : X.K = K) (he : PE X e ta) (hb : attributeBase e f X.env (eval e X.env) = eval e X.env) : PE X (.Attribute e f pos) (tFld K ta f) := by
  subst h
  exact pe_fld he hb
theorem call_len_seqK (h : X.K = K) : CallR X (.builtin "len") (fun xs H Q => ∃ p ys, xs = [.ref p] ∧ (SqL K H p ys ∨ SqT K H p ys) ∧ Q (.int ys.length) H) := by
  subst h
  exact call_len_seq
theorem ix_listK (h : X.K = K) : IxR X (rIxL K) := by
  subst h
  exact ix_list
theorem ix_tupK (h : X.K = K) : IxR X (rIxT K) := by
  subst h
  exact ix_tup
theorem call_list_ofK (h : X.K = K) : CallR X (.type "list") (fun xs H Q => ∃ p ys, xs = [.ref p] ∧ (SqL K H p ys ∨ SqT K H p ys) ∧ ∀ l, H l = none → Q (.ref l) (upd H l (.lst ys))) := by
  subst h
  exact call_list_of
theorem call_tuple_ofK (h : X.K = K) : CallR X (.type "tuple") (fun xs H Q => ∃ p ys, xs = [.ref p] ∧ ((SqL K H p ys ∧ ∀ l, H l = none → Q (.ref l) (upd H l (.tup ys))) ∨ (SqT K H p ys ∧ Q (.ref p) H))) := by
  subst h
  exact call_tuple_of
theorem sl_listK (h : X.K = K) : SlR X (rSlL K) := by
  subst h
  exact sl_list
theorem pi_listK (h : X.K = K) (hl : PE X l tl) : PI X tg l (iList K tl) := by
  subst h
  exact pi_list hl
theorem pi_tupK (h : X.K = K) (hl : PE X l tl) : PI X tg l (iTup K tl) := by
  subst h
  exact pi_tup hl
theorem call_isiG (h : X.K = K) : CallR X (.builtin "isinstance") (rIsi K) := by
  subst h
  exact call_isi
end
theorem yes_ite {σ : L2.St} {H : Hp} {a b : Hp → Prop} (h : a H) : tYes σ H (fun t H' => if t = true then a H' else b H') := by
  unfold tYes
  exact iteT h
end L2
/-! ## Own words, 6: zip of a list and a tuple (or any two of them) -/
namespace L2
open PySem PySem.Spec PyProof.Rows
/-- an iterator that stands at the k-th of a list's or a tuple's items -/
inductive Src (h : Heap) (it l : Addr) (k : Nat) (its : Array Value) : Bool → Prop
  | ofList (a : h.IsListIter it l k) (b : h.IsList l its) : Src h it l k its false
  | ofTup (a : h.IsTupleIter it l k) (b : h.IsTuple l its) : Src h it l k its true
theorem Src.but {h h' : Heap} {it l c : Addr} {k : Nat} {its : Array Value} {t : Bool} (S : Src h it l k its t) (x : Heap.ExtBut c h h') (n1 : it ≠ c) (n2 : l ≠ c) : Src h' it l k its t := by
  cases S with
  | ofList a b => exact .ofList (a.extBut x n1) (b.extBut x n2)
  | ofTup a b => exact .ofTup (a.extBut x n1) (b.extBut x n2)
section
variable {prog : Program} {w : World} {A : Around} {E : Value → Shared → Prop} {s : Shared} {it l : Addr} {k : Nat} {its : Array Value} {t : Bool}
theorem Src.next {x : Value} {Q : Value → Shared → Prop} (S : Src s.heap it l k its t) (ne : l ≠ it) (hx : its[k]? = some x) (q : ∀ h', Src h' it l (k + 1) its t → Heap.SameBut it s.heap h' → Q x { s with heap := h' }) :
    wpAny (model prog w) A (Builtin.SmallTypes.nextOf (.ref it)) Q E s := by
  cases S with
  | ofList a b => exact wpAny_nextOf_list_item a b hx fun h' a' sb => q h' (.ofList a' (b.extBut sb.extBut ne)) sb
  | ofTup a b => exact RZ.nextOf_tuple_item a b hx fun h' a' sb => q h' (.ofTup a' (b.extBut sb.extBut ne)) sb
theorem Src.last {Q : Value → Shared → Prop} (S : Src s.heap it l k its t) (hh : A.handled = none) (hx : its[k]? = none) (q : ∀ h' e, Heap.ExtBut it s.heap h' → (∃ o, h'.get? e = some o ∧ o.cls = .type "StopIteration") → E (.ref e) { s with heap := h' }) :
    wpAny (model prog w) A (Builtin.SmallTypes.nextOf (.ref it)) Q E s := by
  cases S with
  | ofList a b => exact wpAny_nextOf_list_end hh a b hx q
  | ofTup a b => exact RZ.nextOf_tuple_end hh a b hx q
end
section
variable {prog : Program} {w : World} {A : Around} {E : Value → Shared → Prop} {s : Shared} {z TI TO i1 i2 l1 l2 : Addr} {k1 k2 : Nat} {xs ys : Array Value} {a b : Value} {t1 t2 : Bool}
/-- what a turn of zip leaves as it was -/
def ZKeep (z TO i1 i2 : Addr) (h h' : Heap) : Prop := ∀ c o, c ≠ z → c ≠ TO → c ≠ i1 → c ≠ i2 → h.get? c = some o → h'.get? c = some o
theorem zipS_item {x y : Value} {Q : Value → Shared → Prop} (D : ZipApart z TI TO i1 i2 l1 l2) (hz : IsZip s.heap z TI TO .none) (hI : IsPair s.heap TI (.ref i1) (.ref i2)) (hO : IsPair s.heap TO a b)
    (S1 : Src s.heap i1 l1 k1 xs t1) (S2 : Src s.heap i2 l2 k2 ys t2) (hx : xs[k1]? = some x) (hy : ys[k2]? = some y)
    (q : ∀ h', IsZip h' z TI TO (rawInt s.heap.objs.size) → IsPair h' TO x y → Src h' i1 l1 (k1 + 1) xs t1 → Src h' i2 l2 (k2 + 1) ys t2 → IsPair h' s.heap.objs.size x y → ZKeep z TO i1 i2 s.heap h' → Q (.ref s.heap.objs.size) { s with heap := h' }) :
    wpAny (model prog w) A (Builtin.«zip.__next__» ⟨[.ref z], []⟩) (fun fin s' => ∃ v, fin = .done (.ret v) ∧ Q v s') E s := by
  show wpAny _ _ (field (.ref z) 2 >>= _) _ _ _
  refine wpAny_bind (wpAny_field hz rfl (x := .bool false) rfl ?_)
  show wpAny _ _ (field (.ref z) 3 >>= _) _ _ _
  refine wpAny_bind (wpAny_field hz rfl (x := .ref TI) rfl (wpAny_bind (wpAny_seqItems hI rfl ?_)))
  show wpAny _ _ (Builtin.SmallTypes.ownedTupleIsFree (.ref z) >>= _) _ _ _
  refine wpAny_bind ?_
  unfold Builtin.SmallTypes.ownedTupleIsFree
  refine wpAny_bind (wpAny_field hz rfl (x := .none) rfl (wpAny_pure ?_))
  simp only [if_true]
  refine wpAny_bind (wpAny_rule (wpAny_bind (wpAny_field hz rfl (x := .ref TO) rfl (wpAny_bind (wpAny_setField_rec hz (by simp) fun g1 z1 e1 => ?_)))))
  replace z1 : IsZip g1 z TI TO .ellipsis := z1
  refine wpAny_bind ?_
  simp only [List.zipIdx_cons, List.zipIdx_nil, List.forIn_cons, List.forIn_nil]
  refine wpAny_bind (wpAny_bind (wpAny_onRaise ?_))
  show wpAny _ _ (Builtin.SmallTypes.nextOf (.ref i1) >>= _) _ _ _
  refine wpAny_bind ((S1.but e1.extBut D.i1z D.l1z).next D.l1i1 hx fun g2 T2 e2 => wpAny_pure ?_)
  have O2 : IsPair g2 TO a b := e2.extBut _ _ D.TOi1 (e1.extBut _ _ D.TOz hO)
  refine wpAny_bind (wpAny_seqItems O2 rfl (wpAny_bind (wpAny_updateSeq_pair O2 fun g3 O3 e3 => ?_)))
  replace O3 : IsPair g3 TO x b := O3
  refine wpAny_bind (wpAny_letGo (wpAny_pure ?_))
  refine wpAny_bind (wpAny_bind (wpAny_onRaise ?_))
  show wpAny _ _ (Builtin.SmallTypes.nextOf (.ref i2) >>= _) _ _ _
  refine wpAny_bind ((((S2.but e1.extBut D.i2z D.l2z).but e2.extBut D.i12.symm D.l2i1).but e3.extBut D.TOi2.symm D.l2TO).next D.l2i2 hy fun g4 T4 e4 => wpAny_pure ?_)
  have O4 : IsPair g4 TO x b := e4.extBut _ _ D.TOi2 O3
  refine wpAny_bind (wpAny_seqItems O4 rfl (wpAny_bind (wpAny_updateSeq_pair O4 fun g5 O5 e5 => ?_)))
  replace O5 : IsPair g5 TO x y := O5
  refine wpAny_bind (wpAny_letGo (wpAny_pure (wpAny_pure ?_)))
  refine wpAny_bind (wpAny_seqItems O5 rfl (wpAny_bind (wpAny_newTuple ?_)))
  have size : g5.objs.size = s.heap.objs.size := by rw [e5.1, e4.1, e3.1, e2.1, e1.1]
  have Z5 : IsZip g5 z TI TO .ellipsis := e5.extBut _ _ D.TOz.symm (e4.extBut _ _ D.i2z.symm (e3.extBut _ _ D.TOz.symm (e2.extBut _ _ D.i1z.symm z1)))
  have A5 : Src g5 i1 l1 (k1 + 1) xs t1 := ((T2.but e3.extBut D.TOi1.symm D.l1TO).but e4.extBut D.i12 D.l1i2).but e5.extBut D.TOi1.symm D.l1TO
  have B5 : Src g5 i2 l2 (k2 + 1) ys t2 := T4.but e5.extBut D.TOi2.symm D.l2TO
  have zlt : z < g5.objs.size := Heap.lt_size Z5
  show wpAny _ _ (Builtin.SmallTypes.ownedTupleHandOut (.ref z) (.ref g5.objs.size) >>= _) _ _ _
  refine wpAny_bind ?_
  unfold Builtin.SmallTypes.ownedTupleHandOut
  refine wpAny_bind (wpAny_setField_rec (Heap.get?_push_of_some _ Z5) (by simp) fun g7 z7 e7 => wpAny_setField_rec z7 (by simp) fun g8 z8 e8 => ?_)
  have last : Heap.ExtBut z g5 g8 := fun c o n e => e8.extBut _ _ n (e7.extBut _ _ n (Heap.get?_push_of_some _ e))
  have new : IsPair g8 g5.objs.size x y := e8.extBut _ _ (Nat.ne_of_gt zlt) (e7.extBut _ _ (Nat.ne_of_gt zlt) (Heap.get?_push_size _ rfl))
  replace z8 : IsZip g8 z TI TO (rawInt g5.objs.size) := z8
  rw [size] at new z8
  refine wpAny_pure ⟨_, rfl, ?_⟩
  show Q (.ref g5.objs.size) _
  rw [size]
  exact q g8 z8 (last _ _ D.TOz O5) (A5.but last D.i1z D.l1z) (B5.but last D.i2z D.l2z) new fun c o c1 c2 c3 c4 e => last c o c1 (e5.extBut _ _ c2 (e4.extBut _ _ c4 (e3.extBut _ _ c2 (e2.extBut _ _ c3 (e1.extBut _ _ c1 e)))))
/-- the first of the two is at its end -/
theorem zipS_end {Q : Fin → Shared → Prop} (hh : A.handled = none) (D : ZipApart z TI TO i1 i2 l1 l2) (hz : IsZip s.heap z TI TO .none) (hI : IsPair s.heap TI (.ref i1) (.ref i2)) (S1 : Src s.heap i1 l1 k1 xs t1) (hx : xs[k1]? = none)
    (q : ∀ h' e, ZKeep z TO i1 i2 s.heap h' → (∃ o, h'.get? e = some o ∧ o.cls = .type "StopIteration") → E (.ref e) { s with heap := h' }) :
    wpAny (model prog w) A (Builtin.«zip.__next__» ⟨[.ref z], []⟩) Q E s := by
  show wpAny _ _ (field (.ref z) 2 >>= _) _ _ _
  refine wpAny_bind (wpAny_field hz rfl (x := .bool false) rfl ?_)
  show wpAny _ _ (field (.ref z) 3 >>= _) _ _ _
  refine wpAny_bind (wpAny_field hz rfl (x := .ref TI) rfl (wpAny_bind (wpAny_seqItems hI rfl ?_)))
  show wpAny _ _ (Builtin.SmallTypes.ownedTupleIsFree (.ref z) >>= _) _ _ _
  refine wpAny_bind ?_
  unfold Builtin.SmallTypes.ownedTupleIsFree
  refine wpAny_bind (wpAny_field hz rfl (x := .none) rfl (wpAny_pure ?_))
  simp only [if_true]
  refine wpAny_bind (wpAny_rule (wpAny_bind (wpAny_field hz rfl (x := .ref TO) rfl (wpAny_bind (wpAny_setField_rec hz (by simp) fun g1 z1 e1 => ?_)))))
  replace z1 : IsZip g1 z TI TO .ellipsis := z1
  refine wpAny_bind ?_
  simp only [List.zipIdx_cons, List.zipIdx_nil, List.forIn_cons, List.forIn_nil]
  refine wpAny_bind (wpAny_bind (wpAny_onRaise ?_))
  show wpAny _ _ (Builtin.SmallTypes.nextOf (.ref i1) >>= _) _ _ _
  refine wpAny_bind ((S1.but e1.extBut D.i1z D.l1z).last hh hx fun g2 e e2 he => ?_)
  obtain ⟨oe, hoe, hce⟩ := he
  have z2 : IsZip g2 z TI TO .ellipsis := e2 _ _ D.i1z.symm z1
  have ne : e ≠ z := fun x => by
    rw [x, z2] at hoe
    cases hoe
    simp at hce
  exact wpAny_setField_rec z2 (by simp) fun g3 _ e3 => q g3 e (fun c o c1 _ c3 _ x => e3.extBut _ _ c1 (e2 _ _ c3 (e1.extBut _ _ c1 x))) ⟨oe, e3.extBut _ _ ne hoe, hce⟩
end
/-- a list and a tuple as they stand at each turn, the items in new pairs; the list is at its end first -/
def ItzLT (K : PySem.W.Frag) (a b : Addr) : It :=
  ⟨fun i H => ∃ (xs ys : List V) (x y : V), SqL K H a xs ∧ SqT K H b ys ∧ xs[i]? = some x ∧ ys[i]? = some y,
    fun i H v H' => ∃ T x y, v = .ref T ∧ H T = none ∧ H' = upd H T (.tup [x, y]) ∧ (∀ xs, SqL K H a xs → xs[i]? = some x) ∧ ∀ ys, SqT K H b ys → ys[i]? = some y,
    fun i H => ∃ xs : List V, SqL K H a xs ∧ xs.length ≤ i⟩
theorem Src.list {h : Heap} {it l : Addr} {k : Nat} {its : Array Value} (S : Src h it l k its false) : h.IsListIter it l k := by
  cases S with
  | ofList a b => exact a
theorem Src.tup {h : Heap} {it l : Addr} {k : Nat} {its : Array Value} (S : Src h it l k its true) : h.IsTupleIter it l k := by
  cases S with
  | ofTup a b => exact a
theorem turn_zipLT {P : Program} {w : World} {K : PySem.W.Frag} {elts : List Expr} {kk : Nat} {tpos : Pos} {a b z TI TO i1 i2 : Addr} (D : ZipApart z TI TO i1 i2 a b) :
    Turn P w K (.Tuple elts kk tpos) (ItzLT K a b) [z, TI, TO, i1, i2] z (fun i h => IsZip h z TI TO .none ∧ IsPair h TI (.ref i1) (.ref i2) ∧ (∃ x y, IsPair h TO x y) ∧ h.IsListIter i1 a i ∧ h.IsTupleIter i2 b i) where
  mem := List.mem_cons_self
  obj := fun i h st c hc => by
    obtain ⟨hz, hI, ⟨x, y, hO⟩, ⟨o1, e1, _, d1⟩, ⟨o2, e2, _, d2⟩⟩ := st
    simp only [List.mem_cons, List.not_mem_nil, or_false] at hc
    rcases hc with rfl | rfl | rfl | rfl | rfl
    · exact ⟨_, hz, fun v q => nomatch q⟩
    · exact ⟨_, hI, fun v q => nomatch q⟩
    · exact ⟨_, hO, fun v q => nomatch q⟩
    · exact ⟨o1, e1, fun v q => by rw [d1] at q; cases q⟩
    · exact ⟨o2, e2, fun v q => by rw [d2] at q; cases q⟩
  keep := fun i h h' st k => by
    obtain ⟨hz, hI, ⟨x, y, hO⟩, h1, h2⟩ := st
    exact ⟨k z (by simp) _ hz, k TI (by simp) _ hI, ⟨x, y, k TO (by simp) _ hO⟩, h1.at fun o q => k i1 (by simp) o q, h2.at fun o q => k i2 (by simp) o q⟩
  item := by
    intro X hP hw hK hc i pins s σ H E I hf st hg
    subst hP hw hK
    obtain ⟨hz, hI, ⟨x0, y0, hO⟩, h1, h2⟩ := st
    obtain ⟨xs, ys, x, y, sx, sy, hx, hy⟩ := hg
    obtain ⟨its, rv, p, _⟩ := I.list sx
    obtain ⟨its2, rv2, p2, _⟩ := I.tuple sy
    obtain ⟨u, hu, ru⟩ := rv.get hx
    obtain ⟨u2, hu2, ru2⟩ := rv2.get hy
    have zlt : z < s.heap.objs.size := Heap.lt_size hz
    have lower : ∀ c ∈ [z, TI, TO, i1, i2], c < s.heap.objs.size := fun c hcm => by
      simp only [List.mem_cons, List.not_mem_nil, or_false] at hcm
      rcases hcm with rfl | rfl | rfl | rfl | rfl
      · exact zlt
      · exact Heap.lt_size hI
      · exact Heap.lt_size hO
      · obtain ⟨_, e1, _⟩ := h1; exact Heap.lt_size e1
      · obtain ⟨_, e2, _⟩ := h2; exact Heap.lt_size e2
    unfold pyNext
    refine wpAny_bind (wpAny_attempt (wpAny_callSpecial?_slot (name := Str.ofString "__next__") ⟨_, hz, rfl⟩ F.slot_zip_next (wpAny_call_entry F.slot_zip_next ⟨_, hz, rfl⟩ F.entry_zip_next ?_ (F.args_zip_next_1 _))))
    refine zipS_item D hz hI hO (.ofList h1 p.isList) (.ofTup h2 p2) (x := u) (y := u2) (by simpa using hu) (by simpa using hu2) fun h' z' O' S1 S2 new keep => wpAny_pure ?_
    refine ⟨_, rfl, wpAny_letOwnedTupleGo_zip (s := { s with heap := h' }) z' fun h'' z'' sb => ?_⟩
    have pair : h''.get? s.heap.objs.size = some { cls := .type "tuple", data := .seq #[u, u2] } := (sb.2 _ (Nat.ne_of_gt zlt)).trans new
    have ok : ObjOk X.prog X.w (upd H s.heap.objs.size (.tup [x, y])) h'' s.heap.objs.size (.tup [x, y]) := ⟨by show 2 ≤ sizeLine; decide, [u, u2], .cons ru (.cons ru2 .nil), ⟨_, pair, rfl, _, rfl⟩⟩
    have I1 : Inv X pins σ (upd H s.heap.objs.size (.tup [x, y])) { s with heap := h'' } :=
      I.turnedNew (t' := s.toks) (ch := [z, TI, TO, i1, i2]) (fun c o nb e => (sb.2 c (fun e' => nb (by simp [e']))).trans (keep c o (fun e' => nb (by simp [e'])) (fun e' => nb (by simp [e'])) (fun e' => nb (by simp [e'])) (fun e' => nb (by simp [e'])) e)) hf (Nat.le_refl _) ok
    refine ⟨.ref s.heap.objs.size, _, I1, rfl, ⟨_, x, y, rfl, I.hok.fresh (Nat.le_refl _), rfl, fun l hl => by rw [I.list_inj hl sx]; exact hx, fun l hl => by rw [I.tuple_inj hl sy]; exact hy⟩, ⟨z'', ?_, ⟨u, u2, (sb.2 _ D.TOz).trans O'⟩, ?_, ?_⟩, fun c hcm => ?_⟩
    · exact (sb.2 _ D.TIz).trans (keep _ _ D.TIz D.TITO D.TIi1 D.TIi2 hI)
    · exact S1.list.at fun o q => (sb.2 _ D.i1z).trans q
    · exact S2.tup.at fun o q => (sb.2 _ D.i2z).trans q
    · rw [upd_ne (Nat.ne_of_lt (lower c hcm))]
      exact (hf c hcm).1
  done := by
    intro X hP hw hK hc i pins s σ H E I hf st hg
    subst hP hw hK
    obtain ⟨hz, hI, ⟨x0, y0, hO⟩, h1, h2⟩ := st
    obtain ⟨xs, sx, hend⟩ := hg
    obtain ⟨its, rv, p, _⟩ := I.list sx
    have l1 := rv.length
    unfold pyNext
    refine wpAny_bind (wpAny_attempt (wpAny_callSpecial?_slot (name := Str.ofString "__next__") ⟨_, hz, rfl⟩ F.slot_zip_next (wpAny_call_entry F.slot_zip_next ⟨_, hz, rfl⟩ F.entry_zip_next ?_ (F.args_zip_next_1 _))))
    refine zipS_end (I.ok.hd hc) D hz hI (.ofList h1 p.isList) (by simp; omega) fun h' e keep he => ?_
    obtain ⟨o, ho, hce⟩ := he
    refine wpAny_bind (wpAny_isInstance (T := "StopIteration") (b := true) ⟨o, ho, hce⟩ isSubtype_stop (wpAny_pure ⟨rfl, ?_⟩))
    exact I.turnedL (t' := s.toks) (ch := [z, TI, TO, i1, i2]) (fun c o nb e => keep c o (fun e' => nb (by simp [e'])) (fun e' => nb (by simp [e'])) (fun e' => nb (by simp [e'])) (fun e' => nb (by simp [e'])) e) hf
  self := fun A i s Q E st h => wpAny_pyIter_zip st.1 h
/-- the heap behind zip(l1, l2): two iterators, their pair, the pair to hand out, the zip -/
def zipHp (h : Heap) (l1 l2 : Addr) : Heap :=
  ((((h.push { cls := .type "list_iterator", data := .fields #[.ref l1, .int 0 0] }).push { cls := .type "tuple_iterator", data := .fields #[.ref l2, .int 0 0] }).push { cls := .type "tuple", data := .seq #[.ref h.objs.size, .ref (h.objs.size + 1)] }).push
    { cls := .type "tuple", data := .seq #[.none, .none] }).push { cls := .type "zip", data := .fields #[.none, .bool false, .bool false, .ref (h.objs.size + 2), .ref (h.objs.size + 3)] }
theorem zipLT_new (l1 l2 : Addr) (xs ys : Array Value) : Meets (Builtin.«zip.__new__» ⟨[.type "zip", .ref l1, .ref l2], []⟩) (fun _ R s => s.heap.IsList l1 xs ∧ s.heap.IsTuple l2 ys ∧ R (.ok (.ret (.ref (s.heap.objs.size + 4)))) { s with heap := zipHp s.heap l1 l2 }) :=
  .of_wp fun prog w A R s h => by
    obtain ⟨hp, g, d, tk, os⟩ := s
    obtain ⟨hl1, hl2, h⟩ := h
    have sub := sub_zip
    have L1 : Heap.IsList (Shared.heap ⟨hp, g, d, tk, os⟩) l1 xs := hl1
    have L2 : Heap.IsTuple (Shared.heap ⟨hp.push { cls := .type "list_iterator", data := .fields #[.ref l1, .int 0 0] }, g, d, tk, os⟩) l2 ys := Heap.IsTuple.push hl2 _
    wp_walk using wpAny_pyIter_list L1, wpAny_pyIter_tuple L2
    refine ⟨_, rfl, ?_⟩
    simp only [Heap.size_push] at h ⊢
    exact h
theorem call_zipLT {prog : Program} {w : World} {A : Around} {E : Value → Shared → Prop} {s : Shared} {l1 l2 : Addr} {xs ys : Array Value} {Q : Value → Shared → Prop} (h1 : s.heap.IsList l1 xs) (h2 : s.heap.IsTuple l2 ys)
    (q : ∀ h', IsZip h' (s.heap.objs.size + 4) (s.heap.objs.size + 2) (s.heap.objs.size + 3) .none → IsPair h' (s.heap.objs.size + 2) (.ref s.heap.objs.size) (.ref (s.heap.objs.size + 1)) → IsPair h' (s.heap.objs.size + 3) .none .none →
      h'.IsListIter s.heap.objs.size l1 0 → h'.IsTupleIter (s.heap.objs.size + 1) l2 0 → (∀ c o, s.heap.get? c = some o → h'.get? c = some o) → Q (.ref (s.heap.objs.size + 4)) { s with heap := h' }) :
    wpAny (model prog w) A (call (.type "zip") [.ref l1, .ref l2]) Q E s := by
  refine callType_new F.called_zip (by decide) (F.typeCall_zip_2 _ _) (F.newCall_zip_2 _ _) (fun obj => F.args_object_init_3 obj _ _) F.entry_zip_new (zipLT_new l1 l2 xs ys) ⟨h1, h2, ?_⟩
  have at0 : (zipHp s.heap l1 l2).get? s.heap.objs.size = some { cls := .type "list_iterator", data := .fields #[.ref l1, .int 0 0] } := Heap.get?_push_of_some _ (Heap.get?_push_of_some _ (Heap.get?_push_of_some _ (Heap.get?_push_of_some _ (Heap.get?_push_size _ rfl))))
  have at1 : (zipHp s.heap l1 l2).get? (s.heap.objs.size + 1) = some { cls := .type "tuple_iterator", data := .fields #[.ref l2, .int 0 0] } := by
    refine Heap.get?_push_of_some _ (Heap.get?_push_of_some _ (Heap.get?_push_of_some _ ?_))
    rw [← Heap.size_push s.heap { cls := .type "list_iterator", data := .fields #[.ref l1, .int 0 0] }]
    exact Heap.get?_push_size _ rfl
  have at2 : (zipHp s.heap l1 l2).get? (s.heap.objs.size + 2) = some { cls := .type "tuple", data := .seq #[.ref s.heap.objs.size, .ref (s.heap.objs.size + 1)] } := by
    refine Heap.get?_push_of_some _ (Heap.get?_push_of_some _ ?_)
    have e : s.heap.objs.size + 2 = ((s.heap.push { cls := .type "list_iterator", data := .fields #[.ref l1, .int 0 0] }).push { cls := .type "tuple_iterator", data := .fields #[.ref l2, .int 0 0] }).objs.size := by rw [Heap.size_push, Heap.size_push]
    rw [e]
    exact Heap.get?_push_size _ rfl
  have at3 : (zipHp s.heap l1 l2).get? (s.heap.objs.size + 3) = some { cls := .type "tuple", data := .seq #[.none, .none] } := by
    refine Heap.get?_push_of_some _ ?_
    have e : s.heap.objs.size + 3 = (((s.heap.push { cls := .type "list_iterator", data := .fields #[.ref l1, .int 0 0] }).push { cls := .type "tuple_iterator", data := .fields #[.ref l2, .int 0 0] }).push { cls := .type "tuple", data := .seq #[.ref s.heap.objs.size, .ref (s.heap.objs.size + 1)] }).objs.size := by rw [Heap.size_push, Heap.size_push, Heap.size_push]
    rw [e]
    exact Heap.get?_push_size _ rfl
  have at4 : (zipHp s.heap l1 l2).get? (s.heap.objs.size + 4) = some { cls := .type "zip", data := .fields #[.none, .bool false, .bool false, .ref (s.heap.objs.size + 2), .ref (s.heap.objs.size + 3)] } := by
    have e : s.heap.objs.size + 4 = ((((s.heap.push { cls := .type "list_iterator", data := .fields #[.ref l1, .int 0 0] }).push { cls := .type "tuple_iterator", data := .fields #[.ref l2, .int 0 0] }).push { cls := .type "tuple", data := .seq #[.ref s.heap.objs.size, .ref (s.heap.objs.size + 1)] }).push { cls := .type "tuple", data := .seq #[.none, .none] }).objs.size := by rw [Heap.size_push, Heap.size_push, Heap.size_push, Heap.size_push]
    unfold zipHp
    rw [e]
    exact Heap.get?_push_size _ rfl
  refine ⟨⟨_, at4, rfl⟩, q _ at4 at2 at3 ⟨_, at0, rfl, rfl⟩ ⟨_, at1, rfl, rfl⟩ fun c o x => ?_⟩
  exact Heap.get?_push_of_some _ (Heap.get?_push_of_some _ (Heap.get?_push_of_some _ (Heap.get?_push_of_some _ (Heap.get?_push_of_some _ x))))
def iZipLT (K : PySem.W.Frag) (ta : TA) : TI := fun σ H R => ta σ H fun vs H1 => ∃ a b xs ys, vs = [.ref a, .ref b] ∧ SqL K H1 a xs ∧ SqT K H1 b ys ∧ R (ItzLT K a b) H1
theorem pi_zipLT {X : Cx} {e e2 : Expr} {ta : TA} {p pos tpos : Pos} {elts : List Expr} {kk : Nat} (hg : Gl X "zip") (hm : X.mg "zip" = none) (ha : PA X [e, e2] ta)
    (hs : starEach [e, e2] X.env = (false, eval e X.env) :: starEach [e2] X.env := by rfl) (hpl : (backTo pos (starEach [e2] X.env)).any (·.1) = false := by rfl) :
    PI X (.Tuple elts kk tpos) (.Call (.Name "zip" p) [e, e2] [] pos) (iZipLT X.K ta) := by
  refine ⟨fun pins s σ H R I h => ?_⟩
  refine Call_ (ld_blt I hg hm PyProof.Rows.boot_zip (PyProof.Rows.callWith_type1 (thn (ha.run pos pins s σ H _ I h) fun us s1 ⟨vs, H1, I1, r1, q1⟩ => ?_) hs hpl))
  obtain ⟨a, b, xs, ys, rfl, sx, sy, q⟩ := q1
  obtain ⟨u, v, rfl, ru, rv⟩ := vals2 r1
  cases ru
  cases rv
  obtain ⟨its, _, p1, _⟩ := I1.list sx
  obtain ⟨its2, _, p2, _⟩ := I1.tuple sy
  obtain ⟨o2, ho2, _⟩ := id p2
  refine call_zipLT p1.isList p2 fun h' hz hI hO t1 t2 keep => wpAny_pyIter_zip hz ?_
  refine ⟨s1.heap.objs.size + 4, [s1.heap.objs.size + 4, s1.heap.objs.size + 2, s1.heap.objs.size + 3, s1.heap.objs.size, s1.heap.objs.size + 1], _, _, H1, rfl, I1.kept (t' := s1.toks) keep, turn_zipLT (PySem.W.ktu_apart s1.heap.objs.size a b p1.lt (Heap.lt_size ho2)), ⟨hz, hI, ⟨_, _, hO⟩, t1, t2⟩, fun c hc => ?_, q⟩
  have up : s1.heap.objs.size ≤ c := by
    simp only [List.mem_cons, List.not_mem_nil, or_false] at hc
    rcases hc with rfl | rfl | rfl | rfl | rfl <;> omega
  exact I1.fpOk up (I1.hok.fresh up)
theorem walk_zipLT {K : PySem.W.Frag} {a b : Addr} {xs ys : List V} (hn : xs.length = ys.length) : Walk (ItzLT K a b) xs.length (fun H => SqL K H a xs ∧ SqT K H b ys) (YPair (fun i => xs[i]?) (fun i => ys[i]?)) where
  goes := fun i H hi ⟨h1, h2⟩ => ⟨xs, ys, xs[i], ys[i], h1, h2, List.getElem?_eq_getElem hi, List.getElem?_eq_getElem (hn ▸ hi)⟩
  stops := fun H ⟨h1, _⟩ => ⟨xs, h1, Nat.le_refl _⟩
  yields := fun i H v H' _ ⟨h1, h2⟩ ⟨T, x, y, e1, e2, e3, e4, e5⟩ => ⟨T, x, y, e1, e2, e3, e4 _ h1, e5 _ h2⟩
end L2
namespace L2
open PySem PySem.Spec PyProof.Rows
/-! ## Own words, 8: name = {k: v for ..}, the name a local -/
theorem swd_true {kx vx : Expr} {gs : List Comprehension} {scope : Scope} {pos py : Pos} {y : Str} {l : Nat} {env : Env} (kind : env.scope.kind = .function) (loc : env.scope.names.lookup y = some .local) (row : (py.line == pos.line) = true)
    (none_in : (scope.names.any fun (n, k) => n == y && (k == .local || k == .cell)) = false) : swapsWith (.DictComp kx vx gs scope pos) (some (.Name y py)) l env = pure true := by
  have k1 : env.kindOf y = some .local := loc
  have k2 : env.blockKind = .function := by
    unfold Env.blockKind
    rw [kind]
    rfl
  unfold swapsWith
  simp only [k2, k1, none_in, Expr.pos, row]
  rfl
section
variable {X : Cx}
theorem ps_setDc {i : Nat} {y : Str} {py : Pos} {kx vx tg iter : Expr} {ifs : List Expr} {scope : Scope} {own : List (Str × Nat)} {pos spos : Pos} {wi : TI} {g : TG} {tt : TT} {tk tv : TE} (calm : X.calm = true) (nodup : X.N.Nodup) (slot : X.N[i]? = some y) (loc : X.env.scope.names.lookup y = some .local)
    (swaps : swapsWith (.DictComp kx vx [⟨tg, iter, ifs, 0⟩] scope pos) (some (.Name y py)) spos.line X.env = pure true) (walked : PI X tg iter wi) (blk : BlkOk X.N X.env.scope scope own)
    (pg : ∀ (s : Shared) (H : Hp) (C : Addr) (cl : List (Str × Addr)) (fp : List Addr), PG (X.blk s H scope (compEnvC scope cl C X.env) fp) tg g)
    (pt : ∀ (s : Shared) (H : Hp) (C : Addr) (cl : List (Str × Addr)) (fp : List Addr), PTs (X.blk s H scope (compEnvC scope cl C X.env) fp) ifs tt)
    (pk : ∀ (s : Shared) (H : Hp) (C : Addr) (cl : List (Str × Addr)) (fp : List Addr), PE (X.blk s H scope (compEnvC scope cl C X.env) fp) kx tk)
    (pv' : ∀ (s : Shared) (H : Hp) (C : Addr) (cl : List (Str × Addr)) (fp : List Addr), PE (X.blk s H scope (compEnvC scope cl C X.env) fp) vx tv)
    (folded : ∀ x, foldedSetIterable iter X.env x = pure x := by intro _; rfl) :
    PS X (.Assign [.Name y py] (.DictComp kx vx [⟨tg, iter, ifs, 0⟩] scope pos) spos) (tAsg (tDc wi g tt tk tv (own.map (·.2))) (gName i)) := by
  refine ⟨fun pins s σ H D I h => ?_⟩
  rw [exec_Assign_Name_used _ _ _ _ swaps]
  refine wpAny_bind (wpAny_standAt (wpAny_bind ?_))
  show wpAny _ X.A (do let _ ← comprehension (.DictComp kx vx [⟨tg, iter, ifs, 0⟩] scope pos) scope X.env (firstIterPos [⟨tg, iter, ifs, 0⟩] pos) newDict false (eval iter X.env) (some (assign (.Name y py) X.env))) _ _ s
  have h' : tDc wi g tt tk tv (own.map (·.2)) σ H (fun x H1 => gName i x σ H1 D.nx) := h
  refine wpAny_bind (thn (dc_core (Qf := fun _ s' => SP X pins D .next s') calm nodup I walked blk pg pt pk pv' folded h' fun L C s' m H' I' q hn f => ?_) fun _ s' hq => wpAny_pure (wpAny_pure hq))
  show wpAny _ _ (assign (.Name y py) X.env (.ref L)) _ _ _
  refine wpAny_assign_Name (store_ok2 (v := V.ref L) I' nodup slot (.inl loc) rfl (fun s2 I2 ⟨a, sb, ha⟩ => ?_) (.inr loc))
  obtain ⟨f0, f1, f2, f3, f4, f5⟩ := f
  have apart : C ≠ a := by
    rcases ha with z | z
    · exact z ▸ f1
    · exact fun e => f4 y a z e.symm
  exact ⟨m, hn.sameBut sb apart, fun h3 sb3 => ⟨_, H', I2.turned (t' := s2.toks) (fun b o hb e => (sb3.2 b hb).trans e) f0 f1 f3 f4 f5, q⟩⟩
end
end L2
namespace L2
open PySem PySem.Spec PyProof.Rows
/-! ## Own words, 9: len of an own class's instance; a method with keywords alone; == of one of some sorts -/
section
variable {X : Cx} {CX : CXT} {k n : Nat} {f C : Addr} {fd : FuncData} {ps ks : List Str} {sp : Sp} {E : XK} {x m : Str} {p pos apos : Pos} {o : Expr} {kws : List Keyword} {ta : TE} {tk : TA} {g : List Value → List Value → List Value} {gV : List V → List V → List V}
/-- len(o), o an instance of the class at C, by the text's own __len__ -/
def rLenO (C : Addr) (sp : Sp) (E : XK) : List V → Hp → VK → Prop := fun xs H Q => ∃ (a dx : Addr) (fs : List (Str × V)), xs = [.ref a] ∧ H a = some (.ins C dx fs) ∧ sp [.ref a] H (fun v H' => ∃ n : Nat, v = .int (n : Int) ∧ n < 2 ^ 62 ∧ Q (.int (n : Int)) H') E
theorem call_lenO (F : FnOk X.prog X.w X.K X.mg X.base CX k f fd ps sp) (hs : PySem.W.findIn X.K (.ref C) "__len__" = some (some (.ref f))) (hf : PySem.W.isFn X.K (.ref f) = true) (hb : Binds X.K fd ps []) (hr : Room (k + 1) X.A) (hx : Passes CX X E) : CallR X (.builtin "len") (rLenO C sp E) := by
  intro pins s σ H xs us Q I r h
  obtain ⟨a, dx, fs, rfl, ha, hsp⟩ := h
  obtain ⟨u, rfl, ru⟩ := vals1 r
  obtain rfl : u = Value.ref a := ru
  obtain ⟨mA, J, _⟩ := ins_get I.hok ha
  obtain ⟨od, J, _⟩ := J.look
  obtain ⟨m, hF⟩ := I.fr
  refine PySem.W.len_K hF I.ok.mod.kin J hs hf ?_
  have hl := F.len _ _ _ _ hsp
  have r2 : Vals [V.ref a] [Value.ref a] := .cons rfl .nil
  refine wpAny_call (codeAny_mono (F.run X.A.in1 X.stack s H ⟨[.ref a], []⟩ [.ref a] [.ref a] _ E hr.in1 I.env0.in1 (by
    have := hb s [.ref a] I.kIn (by simpa using hl)
    simpa using this) r2 hsp) fun r s' hq => ?_)
  cases r with
  | error e => exact hx pins σ H s e s' I hq
  | ok fl =>
    cases fl with
    | ret w =>
      obtain ⟨z, H', I', rz, n, ez, n1, q⟩ := I.after hq
      subst ez
      obtain ⟨t, rfl⟩ := rz
      exact ⟨⟨by omega, by omega⟩, .int (n : Int), H', I'.tok _, ⟨_, rfl⟩, q⟩
    | next => exact False.elim hq
    | brk => exact False.elim hq
    | cont => exact False.elim hq
/-- a def without defaults, called with keywords too -/
theorem FunD.kbN {K : PySem.W.Frag} {x qual : Str} {params : Arguments} {body : List Stmt} {scope : Scope} {kws : List (Str × V)} (F : FunD K x qual params body scope [] kws f fd) (n : Nat) (ks : List Str) (g : {α : Type} → List α → List α → List α)
    (hrel : ∀ {vs zs : List V} {us ws : List Value}, Vals vs us → Vals zs ws → Vals (g vs zs) (g us ws))
    (h : ∀ (kV doc pm : Value) (an : Option Addr) (cdv ct : Value) (us ws : List Value), us.length = n → ws.length = ks.length → bindArgs (PySem.W.fnOf x qual params body scope .none kV doc pm an cdv ct) ⟨us, ks.zip ws⟩ = pure (ps.zip (g us ws))) :
    KBn K fd ps n ks (fun us ws => g us ws) (fun vs zs => g vs zs) := by
  obtain ⟨oc, od, dV, kV, doc, pm, an, cdv, ct, osl, rfl, lk, hcd, hD, hK⟩ := F.ex
  rcases hD with ⟨_, rfl⟩ | ⟨e, _⟩
  · exact ⟨fun s us ws _ l1 l2 => .of_eq (h kV doc pm an cdv ct us ws l1 l2), fun r1 r2 => hrel r1 r2⟩
  · exact absurd rfl e
theorem run_fnB {pins : List (Addr × Obj)} {σ : St} {H : Hp} {s : Shared} {Q : VK} {us ws : List Value} {vs zs : List V} (F : FnOk X.prog X.w X.K X.mg X.base CX k f fd ps sp) (hr : Room k X.A) (hb : KBn X.K fd ps n ks g gV) (hx : Passes CX X E)
    (I : Inv X pins σ H s) (r : Vals vs us) (rz : Vals zs ws) (l1 : vs.length = n) (l2 : zs.length = ks.length) (h : sp (gV vs zs) H Q E) : wpAny (model X.prog X.w) X.A (call (.ref f) us (ks.zip ws)) (EP X pins σ Q) X.xe s := by
  have r2 := hb.rel r rz
  refine wpAny_call (codeAny_mono (F.run X.A X.stack s H ⟨us, ks.zip ws⟩ (g us ws) (gV vs zs) Q E hr I.env0 (hb.to s us ws I.kIn (r.length.symm.trans l1) (rz.length.symm.trans l2)) r2 h) fun r s' hq => ?_)
  cases r with
  | error e => exact hx pins σ H s e s' I hq
  | ok fl =>
    cases fl with
    | ret u => exact I.after hq
    | next => exact False.elim hq
    | brk => exact False.elim hq
    | cont => exact False.elim hq
/-- o.m(k = v, ..) -/
def tMethK (C : Addr) (m : Str) (j : Nat) (sp : Sp) (gV : List V → List V → List V) (E : XK) (ta : TE) (tk : TA) : TE := fun σ H Q => ta σ H fun x H1 => ∃ a dx fs, x = .ref a ∧ H1 a = some (.ins C dx fs) ∧ fs.lookup m = none ∧ tk σ H1 fun zs H2 => zs.length = j ∧ sp (gV [x] zs) H2 Q E
theorem pe_methK0 {pl : Sem Bool} (he : PE X o ta) (c : Cls X.K C) (hm : Meth X.K C m f) (F : FnOk X.prog X.w X.K X.mg X.base CX k f fd ps sp) (hr : Room k X.A) (hb : KBn X.K fd ps 1 ks g gV) (hx : Passes CX X E) (hkw : PK X kws tk)
    (hall : (backToKw pos (keywordEach kws X.env)).all (·.1.isSome) = true := by rfl) (hks : (backToKw pos (keywordEach kws X.env)).filterMap (·.1) = ks := by rfl)
    (hpl : ((backTo pos (starEach [] X.env)).any (·.1) || (backToKw pos (keywordEach kws X.env)).any (·.1.isNone)) = false := by rfl)
    (ht : eval (.Call (.Attribute o m apos) [] kws pos) X.env = (do
      let ov ← eval o X.env
      standAt apos.atName
      let (f, first) ← holding [ov] (getMethod ov m pl)
      callWith pos f first (backTo pos (starEach [] X.env)) (backToKw pos (keywordEach kws X.env))) := by rfl) :
    PE X (.Call (.Attribute o m apos) [] kws pos) (tMethK C m ks.length sp gV E ta tk) := by
  refine ⟨fun pins s σ H Q I h => ?_⟩
  refine PySem.W.methodCall_KW (pl := pl) (thn (he.run pins s σ H _ I h) fun u s1 ⟨x, H1, I1, rx, a, dx, fs, ex, ea, l, q⟩ => ?_) ht
  subst ex
  obtain rfl : u = Value.ref a := rx
  refine getmeth_ok I1 ea c hm l ?_
  refine PySem.W.callWith_KW0 (first := [.ref a]) (h₀ := X.base) I.ok.mod.kin hm.kp hall ?_ hpl
  refine thn (hkw.run pos pins s1 σ H1 _ I1 q) fun ws s2 ⟨zs, H2, I2, rz, l2, q2⟩ => ⟨I2.kIn, ?_⟩
  rw [hks]
  exact run_fnB (us := [.ref a]) (vs := [.ref a]) F hr hb hx I2 (.cons rfl .nil) rz rfl l2 q2
end
/-! ### == over some sorts -/
section
variable {X : Cx} {n : Nat} {α : Type}
theorem RcG.any {D : α → Eqv} (h : ∀ A, RcG X n (D A)) : RcG X n (fun x y H => ∃ A, D A x y H) := fun A pins s σ H x y u v sb I rx ry d => by
  obtain ⟨B, d⟩ := d
  exact h B A pins s σ H x y u v sb I rx ry d
/-- an own == of a class -/
structure EqC (P : Program) (w : World) (K : PySem.W.Frag) (mg : Str → Option Value) (base : Heap) (n : Nat) (R : Addr → Addr → Hp → Prop) (C : Addr) : Prop where
  ex : ∃ f fd ps, FnOk P w K mg base CX0 n f fd ps (spEq R) ∧ PySem.W.findIn K (.ref C) "__eq__" = some (some (.ref f)) ∧ PySem.W.isFn K (.ref f) = true ∧ Binds K fd ps []
theorem EqC.rc {R : Addr → Addr → Hp → Prop} {C : Addr} (h : EqC X.prog X.w X.K X.mg X.base n R C) : RcG X n (DIns C R) := by
  obtain ⟨f, fd, ps, F, hs, hf, hb⟩ := h.ex
  exact rcG_ins (E := E0) F hs hf hb pass0
theorem rc_sorts {cl : α → Addr} {R : α → Addr → Addr → Hp → Prop} (h : ∀ A, EqC X.prog X.w X.K X.mg X.base n (R A) (cl A)) : RcG X n (fun x y H => ∃ A, DIns (cl A) (R A) x y H) := RcG.any fun A => (h A).rc
end
end L2
namespace L2
open PySem PySem.Spec PyProof.Rows
/-! ## Own words, 10: isinstance of a caught exception that has fields; repr of a list with an empty dict in it -/
section
variable {X : Cx} {a D : Addr} {oe : Obj} {cls : Value} {d : Option Addr} {pn : List (Addr × Obj)}
/-- isinstance(e, c), e what the suite holds, with or without fields -/
def rIsX (K : PySem.W.Frag) (D a : Addr) (cls : Value) (d : Option Addr) : List V → Hp → VK → Prop := fun xs H Q => cls = .ref D ∧ (∀ dd, d = some dd → ∃ fs, H dd = some (.xd fs)) ∧ ∃ (c : V) (cv : Value) (b : Bool), xs = [.ref a, c] ∧ ClsV c cv ∧ PySem.W.kitOne K (.ref D) cv = some b ∧ Q (.bl b) H
/-- isinstance(e, (c, ..)) -/
def rIsXT (K : PySem.W.Frag) (D a : Addr) (cls : Value) (d : Option Addr) : List V → Hp → VK → Prop := fun xs H Q => cls = .ref D ∧ (∀ dd, d = some dd → ∃ fs, H dd = some (.xd fs)) ∧ ∃ (tp : Addr) (cs : List V) (us : List Value) (b : Bool), xs = [.ref a, .ref tp] ∧ H tp = some (.tup cs) ∧ Paired ClsV cs us ∧ PySem.W.kitAny K (.ref D) us = some b ∧ Q (.bl b) H
/-- the caught exception stands on the heap -/
theorem suite_inst {pins : List (Addr × Obj)} {σ : St} {H : Hp} {s : Shared} (hz : Zc (.ref D) d oe) (hf : ∃ vs, oe.data = .fields vs) (I : Inv (X.suite a ((a, oe) :: pn)) pins σ H s) (hd : ∀ dd, d = some dd → ∃ fs, H dd = some (.xd fs)) : ∃ od, PySem.W.InstAt s.heap a oe D od := by
  obtain ⟨got, _⟩ := I.pin (a, oe) (List.mem_append.mpr (.inl List.mem_cons_self))
  obtain ⟨flds, hv⟩ := hf
  obtain ⟨oc, odd, oda, osl⟩ := oe
  obtain ⟨z1, z2⟩ := hz
  dsimp only at z1 z2 hv
  subst z1 z2 hv
  cases odd with
  | none => exact ⟨none, got, rfl, rfl, trivial⟩
  | some dd =>
    obtain ⟨fs, hx⟩ := hd dd rfl
    have ok : ObjOk X.prog X.w H s.heap dd (.xd fs) := I.hok dd _ hx
    obtain ⟨mA, names, _⟩ := ok
    obtain ⟨od, ho, _⟩ := lookIn_ns names
    exact ⟨some od, got, rfl, rfl, ho⟩
theorem exc_isSome {K : PySem.W.Frag} {D : Addr} (h : PySem.W.hasDictIn K D = true) : (PySem.W.clsIn K D).isSome = true := by
  obtain ⟨cd, hc, _⟩ := PySem.W.any_some h
  rw [hc]
  rfl
theorem call_isX (C : ExcC X.K D) (hz : Zc cls d oe) (hf : ∃ vs, oe.data = .fields vs) : CallR (X.suite a ((a, oe) :: pn)) (.builtin "isinstance") (rIsX X.K D a cls d) := by
  intro pins s σ H xs us Q I r h
  obtain ⟨rfl, hd, c, cv, b, rfl, kc, e, q⟩ := h
  obtain ⟨u1, u2, rfl, r1, r2⟩ := vals2 r
  obtain rfl : u1 = Value.ref a := r1
  obtain rfl := kc.eq r2
  obtain ⟨od, J⟩ := suite_inst hz hf I hd
  exact PySem.W.kia_one (PySem.W.kitx_exc (exc_isSome C.hd) C.hg C.hk C.hs C.ha C.hn C.ht C.hm) I.kIn J e (fun z => nomatch z) fun tk => ⟨.bl b, H, I.kept (t' := tk) fun _ _ z => z, rfl, q⟩
theorem call_isXT (C : ExcC X.K D) (hz : Zc cls d oe) (hf : ∃ vs, oe.data = .fields vs) : CallR (X.suite a ((a, oe) :: pn)) (.builtin "isinstance") (rIsXT X.K D a cls d) := by
  intro pins s σ H xs us Q I r h
  obtain ⟨rfl, hd, tp, cs, ws, b, rfl, hT, k, e, q⟩ := h
  obtain ⟨u1, u2, rfl, r1, r2⟩ := vals2 r
  obtain rfl : u1 = Value.ref a := r1
  cases (show u2 = Value.ref tp from r2)
  obtain ⟨od, J⟩ := suite_inst hz hf I hd
  obtain ⟨_, its, rv, o, h1, h2, n, h3⟩ := (show ObjOk X.prog X.w H s.heap tp (.tup cs) from I.hok tp _ hT)
  have same := ClsV.all k rv
  subst same
  obtain ⟨oc, od', dt, sl⟩ := o
  simp only at h2 h3
  subst h2 h3
  exact PySem.W.kia_tup (PySem.W.kitx_exc (exc_isSome C.hd) C.hg C.hk C.hs C.ha C.hn C.ht C.hm) I.kIn J h1 e (fun z => nomatch z) fun tk => ⟨.bl b, H, I.kept (t' := tk) fun _ _ z => z, rfl, q⟩
end
/-! ### repr of a list whose last thing is an empty dict -/
/-- the dict of the modules stands in the written part -/
def SysM (K : PySem.W.Frag) : Prop := ∃ o, K.lookup sysModules = some o ∧ o.cls = .type "dict"
def rReprE (K : PySem.W.Frag) : List V → Hp → VK → Prop := fun xs H Q => ∃ (l e : Addr) (vs : List V) (ds : List PyData) (S : Str), xs = [.ref l] ∧ SysM K ∧ H l = some (.lst (vs ++ [.ref e])) ∧ DpAll K H vs ds ∧ (∀ x ∈ vs, flatV x = true) ∧ H e = some (.dK []) ∧ PyData.showableAll ds = true ∧ (PyData.list (ds ++ [.dict []])).depth ≤ 60 ∧ (PyData.list (ds ++ [.dict []])).shown.length ≤ sizeLine ∧ (PyData.list (ds ++ [.dict []])).shown = S ∧ Q (.str S) H
theorem flat_noref {v : V} {b : Addr} (f : flatV v = true) (r : RelV v (.ref b)) : False := by
  cases v with
  | non => exact nomatch (show Value.ref b = Value.none from r)
  | bl k => exact nomatch (show Value.ref b = Value.bool k from r)
  | int i =>
    obtain ⟨t, z⟩ := (show ∃ t, Value.ref b = Value.int i t from r)
    cases z
  | str i =>
    obtain ⟨t, z⟩ := (show ∃ t, Value.ref b = Value.str i t from r)
    cases z
  | _ => cases f
theorem reads_flat {h : Heap} : ∀ {us : List Value} {ds : List PyData} {as : List Addr} {vs : List V}, ReadsAll h us ds as → Vals vs us → (∀ x ∈ vs, flatV x = true) → as = []
  | _, _, _, _, .nil, .nil, _ => rfl
  | _, _, _, _, .cons r a, .cons (a := v) rv rr, f => by
    have e := reads_flat a rr fun x hx => f x (List.mem_cons_of_mem _ hx)
    have fv := f v List.mem_cons_self
    subst e
    cases r with
    | list _ _ _ _ => exact (flat_noref fv rv).elim
    | tuple _ _ _ _ => exact (flat_noref fv rv).elim
    | dict _ _ _ _ _ => exact (flat_noref fv rv).elim
    | _ => rfl
theorem vals_split : ∀ {xs ys : List V} {us : List Value}, Vals (xs ++ ys) us → ∃ is us2, us = is ++ us2 ∧ Vals xs is ∧ Vals ys us2
  | [], ys, us, r => ⟨[], us, rfl, .nil, r⟩
  | x :: xs, ys, _, .cons a b => by
    obtain ⟨is, us2, rfl, h1, h2⟩ := vals_split b
    exact ⟨_ :: is, us2, rfl, .cons a h1, h2⟩
theorem readsAll_snoc {h : Heap} {u : Value} {d : PyData} {bs : List Addr} (q : Reads h u d bs) : ∀ {us : List Value} {ds : List PyData} {as : List Addr}, ReadsAll h us ds as → ReadsAll h (us ++ [u]) (ds ++ [d]) (as ++ bs)
  | _, _, _, .nil => by
    have := ReadsAll.cons q .nil
    rw [List.append_nil] at this
    exact this
  | _, _, _, .cons r a => by
    rw [List.append_assoc]
    exact .cons r (readsAll_snoc q a)
theorem showAll_snoc {d : PyData} (h : d.showable = true) : ∀ {ds : List PyData}, PyData.showableAll ds = true → PyData.showableAll (ds ++ [d]) = true
  | [], _ => by
    rw [List.nil_append, PyData.showableAll, PyData.showableAll, h]
    rfl
  | x :: r, h1 => by
    rw [PyData.showableAll, Bool.and_eq_true] at h1
    rw [List.cons_append, PyData.showableAll, h1.1, showAll_snoc h h1.2]
    rfl
theorem call_reprE {X : Cx} (guard : X.A.guards = some []) (units : X.A.units + 66 < cLine) : CallR X (.builtin "repr") (rReprE X.K) := by
  intro pins s σ H xs us Q I r h
  obtain ⟨l, e, vs, ds, S, rfl, ⟨om, km, cm⟩, hl, dp, flat, he, sw, dep, sz, rfl, q⟩ := h
  obtain ⟨u, rfl, ru⟩ := vals1 r
  obtain rfl : u = Value.ref l := ru
  obtain ⟨its, rv, ⟨o, n, ho, hc, _, hd⟩, _⟩ := I.list (SqL.of hl)
  obtain ⟨is, us2, rfl, rv1, rv2⟩ : ∃ is us2, its = is ++ us2 ∧ Vals vs is ∧ Vals [V.ref e] us2 := by
    exact vals_split rv
  obtain ⟨ue, rfl, re⟩ := vals1 rv2
  obtain rfl : ue = Value.ref e := re
  obtain ⟨as, ra⟩ := Dp.readsAll I ds _ _ dp rv1
  obtain rfl := reads_flat ra rv1 flat
  obtain ⟨_, nsm, kvs, kv, dof⟩ := dk_of I.hok he
  cases kv
  obtain ⟨oe, es, ep, hoe, exact_, hde, _, prs, _⟩ := dof
  have es0 : es.toList = [] := by
    generalize es.toList = z at prs
    cases prs
    rfl
  have rde : Reads s.heap (.ref e) (.dict []) (e :: [] ++ []) := Reads.dict hoe exact_.1 hde (by rw [es0]; exact .nil) (by rw [es0]; exact .nil)
  have rd : Reads s.heap (.ref l) (.list (ds ++ [.dict []])) (l :: ([] ++ (e :: [] ++ []))) := Reads.list ho hc hd (by simpa using readsAll_snoc rde ra)
  have nl : l ≠ sysModules := fun z => by
    have k := I.kIn _ _ km
    rw [← z, ho] at k
    have := Option.some.inj k
    rw [← this, hc] at cm
    exact absurd cm (by decide)
  refine repr_of_reads' rd (by rw [PyData.showable]; exact showAll_snoc (by rw [PyData.showable, PyData.showableKv]) sw) (fun _ hm => ?_) guard (by omega) (fun _ _ e => e) (fun h' u tk hk => ⟨.str _, H, I.kept (t' := tk) hk, ⟨u, rfl⟩, q⟩) sz
  simp only [List.nil_append, List.append_nil, List.mem_cons, List.not_mem_nil, or_false] at hm
  rcases hm with hm | hm
  · exact nl hm.symm
  · rw [hm] at nsm
    simp at nsm
theorem call_reprX {X : Cx} (guard : X.A.guards = some []) (units : X.A.units + 66 < cLine) : CallR X (.builtin "repr") (fun xs H Q => rReprD X.K xs H Q ∨ rReprE X.K xs H Q) := by
  intro pins s σ H xs us Q I r h
  rcases h with h | h
  · exact call_reprD guard units pins s σ H xs us Q I r h
  · exact call_reprE guard units pins s σ H xs us Q I r h
/-- err.f in an except suite, the written part given -/
theorem pe_xfK {X : Cx} {K : PySem.W.Frag} {a C : Addr} {oe : Obj} {cls : Value} {d : Option Addr} {pn : List (Addr × Obj)} {e : Expr} {te : TE} {pos : Pos} {n : Str} (h : X.K = K) (T : XfC K C) (hno : PySem.W.findIn K (.ref C) n = some none) (hz : Zc cls d oe) (hf : ∃ vs, oe.data = .fields vs)
    (he : PE (X.suite a ((a, oe) :: pn)) e te) (hb : attributeBase e n X.env (eval e X.env) = eval e X.env := by rfl) : PE (X.suite a ((a, oe) :: pn)) (.Attribute e n pos) (tXf a cls d C n te) := by
  subst h
  exact pe_xf T hno hz hf he hb
/-- a rule whose wish speaks of the written part, that part given -/
theorem PE.k {X : Cx} {K : PySem.W.Frag} {e : Expr} {t : PySem.W.Frag → TE} (h : X.K = K) (p : PE X e (t X.K)) : PE X e (t K) := h ▸ p
end L2
/-! ## Own words, 11: an empty dict is not in a list of texts -/
namespace PySem.SeqAt
open AutoSeq1 (wpAny_loadPart')
open MeetsSeq
section
variable {M : Model} {A : Around} {E : Value → Shared → Prop} {s : Shared}
theorem str_eq_declines_dict (b : Str) (u : Tok) (l : Addr) (c : Value) (es : Array DictEntry) (n : Nat) (dd : Option Addr) (sl : Array (Option Value)) :
    Meets (Builtin.«str.__eq__» ⟨[.str b u, .ref l], []⟩) (fun _ R s => s.heap.get? l = some { cls := c, dict := dd, data := .dict es n, slots := sl } ∧ R (.ok (.ret .notImplemented)) s) :=
  .of_wp fun prog w A R s h => by obtain ⟨hp, g, d, tk, os⟩ := s; obtain ⟨hl, h⟩ := h; wp_walk using wpAny_loadPart' hl, wpAny_load hl; exact ⟨_, rfl, h⟩
theorem dict_eq_declines_str (l : Addr) (es : Array DictEntry) (n : Nat) (dd : Option Addr) (sl : Array (Option Value)) (b : Str) (u : Tok) :
    Meets (Builtin.«dict.__eq__» ⟨[.ref l, .str b u], []⟩) (fun _ R s => s.heap.get? l = some { cls := .type "dict", dict := dd, data := .dict es n, slots := sl } ∧ R (.ok (.ret .notImplemented)) s) :=
  .of_wp fun prog w A R s h => by obtain ⟨hp, g, d, tk, os⟩ := s; obtain ⟨hl, h⟩ := h; have f1 := F.sub_str_dict; wp_walk using wpAny_loadPart' hl, wpAny_load hl; exact ⟨_, rfl, h⟩
theorem RcAt.str_dict {l : Addr} {es : Array DictEntry} {n : Nat} {dd : Option Addr} {sl : Array (Option Value)} (b : Str) (u : Tok) (ho : s.heap.get? l = some { cls := .type "dict", dict := dd, data := .dict es n, slots := sl }) (hu : A.units < cLine) : RcAt A s (.str b u) (.ref l) false := fun prog w E Q h => by
  exact rc_eq_decline_or (k := false) (typeIs_str s b u) ⟨_, ho, rfl⟩ (by decide) F.sub_dict_str F.slot_str_eq F.slot_dict_eq_refl
    (fun _ hq => call_meets F.slot_str_eq (typeIs_str s b u) F.entry_str_eq (F.args_str_eq_2 _ _) (str_eq_declines_dict b u l (.type "dict") es n dd sl) ⟨ho, hq⟩)
    (fun _ hq => call_meets F.slot_dict_eq_refl ⟨_, ho, rfl⟩ F.entry_dict_eq (F.args_dict_eq_2 _ _) (dict_eq_declines_str l es n dd sl b u) ⟨ho, hq⟩)
    (fun _ hq => wpAny_of_eq (rfl : isSame (.str b u) (.ref l) = pure false) hq) (.inr hu) h
theorem EqAt.str_dict {l : Addr} {es : Array DictEntry} {n : Nat} {dd : Option Addr} {sl : Array (Option Value)} (b : Str) (u : Tok) (ho : s.heap.get? l = some { cls := .type "dict", dict := dd, data := .dict es n, slots := sl }) (hu : A.units < cLine) : EqAt A s (.str b u) (.ref l) false := fun prog w E Q h => by
  unfold eqBool
  refine wpAny_holding ?_
  refine wpAny_ite_split (fun hab => absurd (eq_of_beq hab) nofun) (fun _ => ?_)
  exact wpAny_bind (RcAt.str_dict b u ho hu prog w E _ (wpAny_truthy_bool h))
end
end PySem.SeqAt
namespace L2
open PySem PySem.Spec PyProof.Rows
def rNotInE : R2 := fun x y H Q => ∃ (e l : Addr) (ts : List Str), x = .ref e ∧ y = .ref l ∧ H e = some (.dK []) ∧ H l = some (.lst (ts.map V.str)) ∧ Q (.bl true) H
theorem valsTxts : ∀ {ts : List Str} {us : List Value}, Vals (ts.map V.str) us → ∀ y ∈ us, ∃ b u, y = Value.str b u
  | [], _, .nil, y, h => by cases h
  | t :: r, _, .cons a b, y, h => by
    rcases List.mem_cons.mp h with rfl | h
    · obtain ⟨k, e⟩ := a
      exact ⟨_, _, e⟩
    · exact valsTxts b y h
theorem op_notInE {X : Cx} (hu : X.A.units + 65 < cLine) : OpR X (compareOp .NotIn) rNotInE := by
  intro pins s σ H x y v u Q I rx ry h
  obtain ⟨e, l, ts, rfl, rfl, he, hl, q⟩ := h
  obtain rfl : v = Value.ref e := rx
  obtain rfl : u = Value.ref l := ry
  obtain ⟨its, rv, ⟨o, n, ho, hc, _, hd⟩, _⟩ := I.list (SqL.of hl)
  obtain ⟨_, nsm, kvs, kv, dof⟩ := dk_of I.hok he
  obtain ⟨⟨cls, dd, dt, sl⟩, es, ep, hoe, exact_, hde, _, prs, _⟩ := dof
  have e1 : cls = .type "dict" := exact_.1
  have e2 : dt = .dict es ep := hde
  subst e1 e2
  refine SeqAt.notIn_listAt (fun _ => false) ⟨o, ho, hc, n, hd⟩ (fun y hy => ?_) ⟨.bl _, H, I, rfl, ?_⟩
  · obtain ⟨b, t, rfl⟩ := valsTxts rv y (by simpa using hy)
    exact SeqAt.EqAt.str_dict b t hoe (by show X.A.units + 1 < cLine; omega)
  · have nf : ∀ zs : List Value, zs.any (fun _ => false) = false := fun zs => by
      induction zs with
      | nil => rfl
      | cons z r ih => rw [List.any_cons, ih]; rfl
    simpa [nf] using q
theorem op_notInX {X : Cx} (hu : X.A.units + 65 < cLine) : OpR X (compareOp .NotIn) (fun x y H Q => rNotInD X.K x y H Q ∨ rNotInE x y H Q) := by
  intro pins s σ H x y v u Q I rx ry h
  rcases h with h | h
  · exact op_notInD hu pins s σ H x y v u Q I rx ry h
  · exact op_notInE hu pins s σ H x y v u Q I rx ry h
end L2
/-! ## Own words: == over lists, tuples, own objects that may come out False -/
namespace GQ
open PySem PySem.SeqAt
open AutoSeq1 (wpAny_loadPart')
open MeetsSeq MeetsSeq2 MeetsSeq3 SeqRoads2
section
variable {prog : Program} {w : World} {A : Around} {R : Result → Shared → Prop}
/-- at each turn the two lists are read anew: N items each, of the i-th two it is told whether they are equal -/
def ListB (prog : Program) (w : World) (A : Around) (E : Value → Shared → Prop) (l b : Addr) (N : Nat) (d : Nat → Bool) (I : Nat → Shared → Prop) : Prop :=
  ∀ i s, I i s → ∃ (items items2 : Array Value) (n n2 : Nat), s.heap.get? l = some { cls := .type "list", data := .seq items n } ∧ s.heap.get? b = some { cls := .type "list", data := .seq items2 n2 } ∧ items.size = N ∧ items2.size = N ∧
    ∀ (h1 : i < items.size) (h2 : i < items2.size), wpAny (model prog w) A.in1 (eqBool items[i] items2[i]) (fun r s' => r = d i ∧ I (i + 1) s') E s
theorem eq_loopB (l b : Addr) (N : Nat) (d : Nat → Bool) (I : Nat → Shared → Prop) (hl : ListB prog w A (fun e s' => R (.error e) s') l b N d I)
    (finF : ∀ i s, i < N → d i = false → I (i + 1) s → R (.ok (.ret (.bool false))) s) (k : Nat) :
    ∀ i : Nat, N - i = k → i ≤ N → (∀ j, j < i → d j = true) → (∀ s, I N s → (∀ j, j < N → d j = true) → R (.ok (.ret (.bool true))) s) → ∀ s, I i s →
      wpAny (model prog w) A.in1 (Builtin.«list.__eq__.loop» ⟨[.ref l, .ref b, rawInt i, rawInt 2], []⟩) (FinOf prog w A R) (fun e s' => R (.error e) s') s := by
  induction k with
  | zero =>
    intro i hk hi all fin s h
    obtain ⟨items, items2, n, n2, hl1, hb1, hs1, hs2, _⟩ := hl _ _ h
    have hi' : i = N := by omega
    have hR : R (.ok (.ret (.bool true))) s := fin s (hi' ▸ h) (hi' ▸ all)
    obtain ⟨hp, g, d, tk, os⟩ := s
    wp_walk using wpAny_loadPart' hl1, wpAny_loadPart' hb1
    have hi1 : items[((i : Nat) : Int).toNat]? = none := by simp; omega
    have hi2 : items2[((i : Nat) : Int).toNat]? = none := by simp; omega
    rw [hi1, hi2]
    wp_walk using wpAny_loadPart' hl1, wpAny_loadPart' hb1
    show R (.ok (.ret (.bool (items.size == items2.size)))) _
    rw [hs1, hs2]
    simpa using hR
  | succ k ih =>
    intro i hk hi all fin s h
    obtain ⟨items, items2, n, n2, hl1, hb1, hs1, hs2, turn⟩ := hl _ _ h
    have hlt : i < items.size := by omega
    have hlt2 : i < items2.size := by omega
    have ht := turn hlt hlt2
    obtain ⟨hp, g, d0, tk, os⟩ := s
    wp_walk using wpAny_loadPart' hl1, wpAny_loadPart' hb1
    have hi1 : items[((i : Nat) : Int).toNat]? = some items[i] := by simp [hlt]
    have hi2 : items2[((i : Nat) : Int).toNat]? = some items2[i] := by simp [hlt2]
    have hc : ((i : Int) + 1) = ((i + 1 : Nat) : Int) := by omega
    rw [hi1, hi2]
    refine wpAny_bind (wpAny_mono ht (fun r s2 h2 => ?_) fun _ _ x => x)
    obtain ⟨hr, h2⟩ := h2
    subst hr
    cases e : d i with
    | true =>
      have hrec := ih (i + 1) (by omega) (by omega) (fun j hj => by
        by_cases z : j = i
        · rw [z, e]
        · exact all j (by omega)) fin s2 h2
      obtain ⟨hp2, g2, d2, tk2, os2⟩ := s2
      wp_walk
      rw [hc]
      exact ⟨plainId_quiet plain_eq_loop _, codeAny_builtin entry_eq_loop (by
        rw [Around.under_plainId plain_eq_loop _]
        exact hrec)⟩
    | false =>
      have hR := finF i s2 (by omega) e h2
      obtain ⟨items3, items4, n3, n4, hl3, hb3, hs3, hs4, _⟩ := hl _ _ h2
      obtain ⟨hp2, g2, d2, tk2, os2⟩ := s2
      wp_walk using wpAny_loadPart' hl3, wpAny_loadPart' hb3
      have hi3 : items3[((i : Nat) : Int).toNat]? = some items3[i] := by simp
      have hi4 : items4[((i : Nat) : Int).toNat]? = some items4[i] := by simp
      rw [hi3, hi4]
      wp_walk
      exact hR
theorem list_eqB (l b : Addr) (N : Nat) (d : Nat → Bool) (I : Nat → Shared → Prop) (hl : ListB prog w A (fun e s' => R (.error e) s') l b N d I)
    (finF : ∀ i s, i < N → d i = false → I (i + 1) s → R (.ok (.ret (.bool false))) s) (fin : ∀ s, I N s → (∀ j, j < N → d j = true) → R (.ok (.ret (.bool true))) s) {s : Shared} (h : I 0 s) :
    wpAny (model prog w) A.in1 (Builtin.«list.__eq__» ⟨[.ref l, .ref b], []⟩) (FinOf prog w A R) (fun e s' => R (.error e) s') s := by
  obtain ⟨items, items2, n, n2, hl1, hb1, hs1, hs2, _⟩ := hl _ _ h
  have hrec := eq_loopB (A := A) (R := R) l b N d I hl finF _ 0 rfl (Nat.zero_le _) (fun j hj => absurd hj (Nat.not_lt_zero j)) fin s h
  obtain ⟨hp, g, d0, tk, os⟩ := s
  have f3 := AutoSeq1.sub_list_list
  have hne : ¬ (items.size != items2.size) = true := by simp [hs1, hs2]
  wp_walk using wpAny_loadPart' hl1, wpAny_loadPart' hb1
  exact ⟨plainId_quiet plain_eq_loop _, codeAny_builtin entry_eq_loop (by
    rw [Around.under_plainId plain_eq_loop _]
    exact hrec)⟩
/-- of unlike lengths -/
theorem list_eqN (l b : Addr) {items items2 : Array Value} {n n2 : Nat} {s : Shared} (hl1 : s.heap.get? l = some { cls := .type "list", data := .seq items n }) (hb1 : s.heap.get? b = some { cls := .type "list", data := .seq items2 n2 }) (hn : items.size ≠ items2.size)
    (hR : R (.ok (.ret (.bool false))) s) :
    wpAny (model prog w) A.in1 (Builtin.«list.__eq__» ⟨[.ref l, .ref b], []⟩) (FinOf prog w A R) (fun e s' => R (.error e) s') s := by
  obtain ⟨hp, g, d0, tk, os⟩ := s
  have f3 := AutoSeq1.sub_list_list
  have hne : (items.size != items2.size) = true := by simp [hn]
  wp_walk using wpAny_loadPart' hl1, wpAny_loadPart' hb1
  exact hR
theorem tuple_eqB (l b : Addr) (items items2 : Array Value) (n n2 : Nat) (dd dd2 : Option Addr) (sl sl2 : Array (Option Value)) (d : Nat → Bool) (I : Nat → Shared → Prop)
    (turn : ∀ i (h1 : i < items.size) (h2 : i < items2.size) s, I i s → wpAny (model prog w) A.in1 (eqBool items[i] items2[i]) (fun r s' => r = d i ∧ I (i + 1) s') (fun e s' => R (.error e) s') s)
    (finF : ∀ i s, i < items.size → i < items2.size → d i = false → I (i + 1) s → R (.ok (.ret (.bool false))) s)
    (fin : ∀ s, I (min items.size items2.size) s → (∀ j, j < min items.size items2.size → d j = true) → R (.ok (.ret (.bool (items.size == items2.size)))) s) {s : Shared} (hl1 : s.heap.get? l = some { cls := .type "tuple", dict := dd, data := .seq items n, slots := sl }) (hb1 : s.heap.get? b = some { cls := .type "tuple", dict := dd2, data := .seq items2 n2, slots := sl2 }) (h : I 0 s) :
    wpAny (model prog w) A.in1 (Builtin.«tuple.__eq__» ⟨[.ref l, .ref b], []⟩) (FinOf prog w A R) (fun e s' => R (.error e) s') s := by
  have f2 := AutoSeq1.sub_tuple_tuple
  have hZ : (items.toList.zip items2.toList).length = min items.size items2.size := by simp
  have h0 := h
  obtain ⟨hp, g, d0, tk, os⟩ := s
  wp_walk using wpAny_loadPart' hl1, wpAny_loadPart' hb1, wpAny_forIn_list _ (fun rest b s' => b.1 = none ∧ ∃ i, rest = (items.toList.zip items2.toList).drop i ∧ i ≤ min items.size items2.size ∧ I i s' ∧ ∀ j, j < i → d j = true) _
  case turn =>
    rintro ⟨y, x⟩ rest b s' ⟨hb', i, hz, hi, hI, hall⟩
    have hlt : i < (items.toList.zip items2.toList).length := by
      rcases Nat.lt_or_ge i (items.toList.zip items2.toList).length with h' | h'
      · exact h'
      · rw [List.drop_of_length_le h'] at hz; cases hz
    have h12 : i < min items.size items2.size := hZ ▸ hlt
    have h1 : i < items.size := by omega
    have h2 : i < items2.size := by omega
    rw [List.drop_eq_getElem_cons hlt] at hz
    injection hz with hyx hrest
    have hy : y = items[i] := by have := congrArg Prod.fst hyx; simpa using this
    have hx : x = items2[i] := by have := congrArg Prod.snd hyx; simpa using this
    subst hy hx
    refine wpAny_bind (wpAny_mono (turn i h1 h2 s' hI) (fun r s2 q2 => ?_) fun _ _ x => x)
    obtain ⟨hr, q2⟩ := q2
    subst hr
    cases e : d i with
    | true =>
      wp_walk
      refine ⟨rfl, i + 1, hrest, by omega, q2, fun j hj => ?_⟩
      by_cases z : j = i
      · rw [z, e]
      · exact hall j (by omega)
    | false =>
      have hR := finF i s2 h1 h2 e q2
      wp_walk
      exact hR
  case fin =>
    rintro ⟨b1, b2⟩ s' ⟨hb', i, hz, hi, hI, hall⟩
    simp only at hb'
    subst hb'
    have hge : min items.size items2.size ≤ i := by
      rcases Nat.lt_or_ge i (items.toList.zip items2.toList).length with h' | h'
      · rw [List.drop_eq_getElem_cons h'] at hz; cases hz
      · exact hZ ▸ h'
    have hi' : i = min items.size items2.size := by omega
    subst hi'
    have hR := fin s' hI hall
    wp_walk
    simpa [Builtin.Tuple.tupleCompareSizes] using hR
  case h =>
    exact ⟨rfl, 0, rfl, Nat.zero_le _, h0, fun j hj => absurd hj (Nat.not_lt_zero j)⟩
end
end GQ
namespace PySem.W
open PySem PySem.Calls PyProof.Rows
section
variable {prog : Program} {w : World} {A : Around} {E : Value → Shared → Prop} {s : Shared} {K : Frag} {x C L f : Addr} {h₀ : Heap} {m : Str → Option Value} {ox : Obj} {od : Option Obj} {name : Str} {b tb : Value}
/-- a special method that stands in object -/
theorem ifBoundB_K {M : Model} {id : String} {args : List Value} {Q : Option Value → Shared → Prop} (X : K.In s.heap) (I : InstAt s.heap x ox C od) (hs : findIn K (.ref C) name = some (some (.builtin id))) (hb : ∀ self, bindSpecial (.builtin id) self = pure (.builtin id, [self]))
    (h : wpAny M A (call (.builtin id) (.ref x :: args)) (fun v => Q (some v)) E s) : wpAny M A (callSpecialIfBound? (.ref x) name args) Q E s := by
  simp only [callSpecialIfBound?, bindSpecialIfBound?]
  refine wpAny_holding (wpAny_bind (wpAny_bind (wpAny_bind (I.type.here ((looks_findIn X hs).here ?_)))))
  simp only [hb]
  refine wpAny_bind (wpAny_askSetting (wpAny_ite ?_))
  have fin : wpAny M A (call (.builtin id) ([.ref x] ++ args) >>= fun v => pure (some v)) Q E s := wpAny_bind (wpAny_mono h (fun v s' h' => wpAny_pure h') fun _ _ h' => h')
  split
  · exact wpAny_bind (wpAny_pure (wpAny_pure fin))
  · exact wpAny_tryCatch (wpAny_bind (wpAny_pure (wpAny_pure fin)))
theorem checkNe_K {M : Model} {Q : Unit → Shared → Prop} (X : K.In s.heap) (I : InstAt s.heap x ox C od) (hm : mroIn K C (.type "object") = some true) (hq : Q () s) : wpAny M A (checkBuiltinCall "object.__ne__" ⟨[.ref x, b], []⟩) Q E s := by
  simp only [checkBuiltinCall, F.cmpKind_ne, F.cmpSplit_ne]
  refine wpAny_bind ?_
  unfold isInstance
  refine wpAny_bind (I.type.here ((looks_mroIn X hm).here ?_))
  simp only [Bool.not_true, Bool.false_eq_true, if_false]
  have ha := F.cmpArgs_ne (.ref x) b
  cases hsig : Manifest.signature? "object.__ne__" with
  | none => exact wpAny_pure hq
  | some sig =>
    simp only [argsOk, hsig] at ha
    have h2 : Bind.checkArgs "object.__ne__" sig ⟨[.ref x, b], []⟩ = pure () := ha
    show wpAny M A (Bind.checkArgs "object.__ne__" sig ⟨[.ref x, b], []⟩) Q E _
    rw [h2]
    exact wpAny_pure hq
/-- x != b by the text's own == -/
theorem ne_K {Q : Value → Shared → Prop} (hu : A.units + 1 < cLine) (F : Fr h₀ L s.heap m) (X₀ : K.In h₀) (I : InstAt s.heap x ox C od) (hb : Looks (model prog w) s.heap (typeOf b) tb) (hn : notFirst K C tb = true)
    (hne : findIn K (.ref C) "__ne__" = some (some (.builtin "object.__ne__"))) (hm : mroIn K C (.type "object") = some true)
    (hs : findIn K (.ref C) "__eq__" = some (some (.ref f))) (hf : isFn K (.ref f) = true)
    (h : wpAny (model prog w) A.in1 (call (.ref f) [.ref x, b]) (fun v s' => ∃ r, v = .bool r ∧ Q (.bool (!r)) s') E s) : wpAny (model prog w) A (richCompare .NotEq (.ref x) b) Q E s := by
  have X := X₀.keeps F.keep
  have one : wpAny (model prog w) A (tryCompare (.ref x) "__ne__" b) (fun r s' => ∃ v, r = some v ∧ Q v s') E s := by
    unfold tryCompare
    refine wpAny_bind (ifBoundB_K X I hne PySem.F.cmp_object.ne.bind (wpAny_call (codeAny_call_builtin PySem.F.cmp_object.ne.plain PySem.F.cmpEntry_ne (checkNe_K X I hm ?_))))
    unfold Builtin.«object.__ne__»
    refine wpAny_bind (wpAny_of_eq (a := (.ref x, [b])) rfl ?_)
    dsimp only
    refine wpAny_bind (wpAny_cRoomFor hu ?_)
    refine wpAny_bind (ifBound_K X I hs hf (wpAny_mono h (fun v s' hv => ?_) fun _ _ e => e))
    obtain ⟨r, rfl, hq⟩ := hv
    refine wpAny_bind (wpAny_truthy_bool (wpAny_pure ?_))
    exact wpAny_pure ⟨_, rfl, hq⟩
  unfold richCompare
  simp only [oneThing_ref]
  refine wpAny_holding (wpAny_bind (wpAny_cRoomFor (Nat.lt_of_succ_lt hu) ?_))
  rw [cmpInfo_NotEq]
  dsimp only
  refine wpAny_bind (I.type.here (wpAny_bind (hb.here ?_)))
  split
  · rename_i q
    have e : subIn K tb (.ref C) = some false := by
      rcases Bool.or_eq_true_iff.mp hn with e | e
      · rw [beq_iff_eq.mp e] at q; simp at q
      · exact beq_iff_eq.mp e
    refine wpAny_bind ((looks_subIn X e).here ?_)
    simp only [Bool.false_eq_true, if_false]
    refine wpAny_bind (wpAny_mono one (fun r s' z => ?_) fun _ _ e => e)
    obtain ⟨v, rfl, hq⟩ := z
    exact wpAny_pure hq
  · refine wpAny_bind (wpAny_pure ?_)
    simp only [Bool.false_eq_true, if_false]
    refine wpAny_bind (wpAny_mono one (fun r s' z => ?_) fun _ _ e => e)
    obtain ⟨v, rfl, hq⟩ := z
    exact wpAny_pure hq
end
end PySem.W
namespace PySem.W
open PySem PySem.Calls PyProof.Rows
section
variable {prog : Program} {w : World} {A : Around} {E : Value → Shared → Prop} {s : Shared} {K : Frag} {x C L f : Addr} {h₀ : Heap} {m : Str → Option Value} {ox : Obj} {od : Option Obj} {name : Str} {b tb : Value}
theorem oneThing_right (op : CmpOp) (u : Value) (x : Addr) : oneThing? op u (.ref x) = none := by cases u <;> rfl
/-- b == x: what stands ahead declines, then the text's own == -/
theorem eqR_K {u : Value} {T id : String} {Q : Value → Shared → Prop} (hu : A.units < cLine) (F : Fr h₀ L s.heap m) (X₀ : K.In h₀) (I : InstAt s.heap x ox C od) (hT : s.TypeIs u T) (sl : Slot T "__eq__" id) (hm : mroIn K C (.type T) = some false)
    (hs : findIn K (.ref C) "__eq__" = some (some (.ref f))) (hf : isFn K (.ref f) = true)
    (decl : ∀ Q' : Value → Shared → Prop, Q' .notImplemented s → wpAny (model prog w) A (call (.builtin id) [u, .ref x]) Q' E s)
    (h : wpAny (model prog w) A (call (.ref f) [.ref x, u]) (CmpBack Q) E s) : wpAny (model prog w) A (richCompare .Eq u (.ref x)) Q E s := by
  have X := X₀.keeps F.keep
  have two : wpAny (model prog w) A (tryCompare (.ref x) "__eq__" u) (fun r s' => ∃ v, r = some v ∧ Q v s') E s := by
    unfold tryCompare
    refine wpAny_bind (ifBound_K X I hs hf (wpAny_mono h (fun v s' hv => ?_) fun _ _ e => e))
    cases v <;> first | exact hv.elim | exact wpAny_pure ⟨_, rfl, hv⟩
  unfold richCompare
  simp only [oneThing_right]
  refine wpAny_holding (wpAny_bind (wpAny_cRoomFor hu ?_))
  rw [cmpInfo_Eq]
  dsimp only
  refine wpAny_bind (wpAny_typeOf hT (wpAny_bind (I.type.here ?_)))
  have hne : (Value.type T != Value.ref C) = true := by
    rw [bne_iff_ne]
    intro z
    cases z
  simp only [hne, if_true]
  refine wpAny_bind ((looks_mroIn X hm).here ?_)
  simp only [Bool.false_eq_true, if_false, Bool.not_false, if_true]
  refine wpAny_bind (m := tryCompare u _ (.ref x)) (wpAny_tryCompare_declines hT sl (decl _ ⟨rfl, ?_⟩))
  dsimp only
  refine wpAny_bind (wpAny_mono two (fun r s' z => ?_) fun _ _ e => e)
  obtain ⟨v, rfl, hq⟩ := z
  exact wpAny_pure hq
end
end PySem.W
namespace PySem.SeqAt
open PySem.W
open AutoSeq1 (wpAny_loadPart')
open MeetsSeq
section
theorem non_eq_ins (x : Addr) : Meets (Builtin.«NoneType.__eq__» ⟨[.none, .ref x], []⟩) (fun _ R s => R (.ok (.ret .notImplemented)) s) :=
  .of_wp fun prog w A R s h => by obtain ⟨hp, g, d, tk, os⟩ := s; wp_walk; exact ⟨_, rfl, h⟩
theorem int_eq_ins (i : Int) (t : Tok) (x C dx : Addr) : Meets (Builtin.«int.__eq__» ⟨[.int i t, .ref x], []⟩) (fun _ R s => s.heap.get? x = some (instObj C dx) ∧ R (.ok (.ret .notImplemented)) s) :=
  .of_wp fun prog w A R s h => by obtain ⟨hp, g, d, tk, os⟩ := s; obtain ⟨hl, h⟩ := h; wp_walk using wpAny_loadPart' hl, wpAny_load hl; exact ⟨_, rfl, h⟩
theorem bool_eq_ins (i : Bool) (x C dx : Addr) : Meets (Builtin.«int.__eq__» ⟨[.bool i, .ref x], []⟩) (fun _ R s => s.heap.get? x = some (instObj C dx) ∧ R (.ok (.ret .notImplemented)) s) :=
  .of_wp fun prog w A R s h => by obtain ⟨hp, g, d, tk, os⟩ := s; obtain ⟨hl, h⟩ := h; wp_walk using wpAny_loadPart' hl, wpAny_load hl; exact ⟨_, rfl, h⟩
theorem str_eq_ins (y : Str) (t : Tok) (x C dx : Addr) : Meets (Builtin.«str.__eq__» ⟨[.str y t, .ref x], []⟩) (fun _ R s => s.heap.get? x = some (instObj C dx) ∧ R (.ok (.ret .notImplemented)) s) :=
  .of_wp fun prog w A R s h => by obtain ⟨hp, g, d, tk, os⟩ := s; obtain ⟨hl, h⟩ := h; wp_walk using wpAny_loadPart' hl, wpAny_load hl; exact ⟨_, rfl, h⟩
theorem tup_eq_ins (l : Addr) (its : Array Value) (n : Nat) (dd : Option Addr) (sl : Array (Option Value)) (x C dx : Addr) : Meets (Builtin.«tuple.__eq__» ⟨[.ref l, .ref x], []⟩) (fun _ R s => s.heap.get? l = some { cls := .type "tuple", dict := dd, data := .seq its n, slots := sl } ∧ s.heap.get? x = some (instObj C dx) ∧ (∀ M : Model, Looks M s.heap (isSubtype (.ref C) (.type "tuple")) false) ∧ R (.ok (.ret .notImplemented)) s) :=
  .of_wp fun prog w A R s h => by obtain ⟨hp, g, d, tk, os⟩ := s; obtain ⟨hl, hx, hs, h⟩ := h; wp_walk using wpAny_loadPart' hl, wpAny_load hl, wpAny_loadPart' hx, (hs _).at; exact ⟨_, rfl, h⟩
theorem lst_eq_ins (l : Addr) (its : Array Value) (n : Nat) (x C dx : Addr) : Meets (Builtin.«list.__eq__» ⟨[.ref l, .ref x], []⟩) (fun _ R s => s.heap.get? l = some { cls := .type "list", data := .seq its n } ∧ s.heap.get? x = some (instObj C dx) ∧ (∀ M : Model, Looks M s.heap (isSubtype (.ref C) (.type "list")) false) ∧ R (.ok (.ret .notImplemented)) s) :=
  .of_wp fun prog w A R s h => by obtain ⟨hp, g, d, tk, os⟩ := s; obtain ⟨hl, hx, hs, h⟩ := h; wp_walk using wpAny_loadPart' hl, wpAny_load hl, wpAny_loadPart' hx, (hs _).at; exact ⟨_, rfl, h⟩
theorem dct_eq_ins (l : Addr) (es : Array DictEntry) (n : Nat) (dd : Option Addr) (sl : Array (Option Value)) (x C dx : Addr) : Meets (Builtin.«dict.__eq__» ⟨[.ref l, .ref x], []⟩) (fun _ R s => s.heap.get? l = some { cls := .type "dict", dict := dd, data := .dict es n, slots := sl } ∧ s.heap.get? x = some (instObj C dx) ∧ (∀ M : Model, Looks M s.heap (isSubtype (.ref C) (.type "dict")) false) ∧ R (.ok (.ret .notImplemented)) s) :=
  .of_wp fun prog w A R s h => by obtain ⟨hp, g, d, tk, os⟩ := s; obtain ⟨hl, hx, hs, h⟩ := h; wp_walk using wpAny_loadPart' hl, wpAny_load hl, wpAny_loadPart' hx, (hs _).at; exact ⟨_, rfl, h⟩
end
end PySem.SeqAt
/-! ## Own words: == that may come out False, by the abstract heap -/
namespace L2
open PySem PySem.Spec PyProof.Rows
/-- the class of a value -/
inductive TyE (H : Hp) : V → Value → Prop where
  | non : TyE H .non (.type "NoneType")
  | bl (x : Bool) : TyE H (.bl x) (.type "bool")
  | int (i : Int) : TyE H (.int i) (.type "int")
  | str (x : Str) : TyE H (.str x) (.type "str")
  | lst {a : Addr} {xs : List V} (e : H a = some (.lst xs)) : TyE H (.ref a) (.type "list")
  | tup {a : Addr} {xs : List V} (e : H a = some (.tup xs)) : TyE H (.ref a) (.type "tuple")
  | dK {a : Addr} {kvs : List (Key × V)} (e : H a = some (.dK kvs)) : TyE H (.ref a) (.type "dict")
  | ins {a C dx : Addr} {fs : List (Str × V)} (e : H a = some (.ins C dx fs)) : TyE H (.ref a) (.ref C)
section
variable {X : Cx} {pins : List (Addr × Obj)} {σ : St} {H : Hp} {s : Shared} {x : V} {u t : Value}
theorem looks_b (I : Inv X pins σ H s) (rx : RelV x u) (ty : TyE H x t) : PySem.W.Looks (model X.prog X.w) s.heap (typeOf u) t := by
  cases ty with
  | non => cases (show u = Value.none from rx); exact PySem.W.Looks.of_pure rfl
  | bl y => cases (show u = Value.bool y from rx); exact PySem.W.Looks.of_pure rfl
  | int i => obtain ⟨t, q⟩ := (show ∃ t, u = Value.int i t from rx); cases q; exact PySem.W.Looks.of_pure rfl
  | str y => obtain ⟨t, q⟩ := (show ∃ t, u = Value.str y t from rx); cases q; exact PySem.W.Looks.of_pure rfl
  | @lst a xs ea =>
    cases (show u = Value.ref a from rx)
    obtain ⟨_, _, n, _, h1⟩ := (show ObjOk X.prog X.w H s.heap a (.lst xs) from I.hok a _ ea)
    exact fun A Q E s k q => wpAny_typeOf_ref (k _ _ h1) q
  | @tup a xs ea =>
    cases (show u = Value.ref a from rx)
    obtain ⟨_, _, _, o, h1, h2, _⟩ := (show ObjOk X.prog X.w H s.heap a (.tup xs) from I.hok a _ ea)
    exact fun A Q E s k q => wpAny_typeOf_ref (k _ _ h1) (by rw [h2]; exact q)
  | @dK a kvs ea =>
    cases (show u = Value.ref a from rx)
    obtain ⟨_, _, vs, _, o, es, ep, h1, h2, _⟩ := (show ObjOk X.prog X.w H s.heap a (.dK kvs) from I.hok a _ ea)
    exact fun A Q E s k q => wpAny_typeOf_ref (k _ _ h1) (by rw [h2.1]; exact q)
  | @ins a C dx fs ea =>
    cases (show u = Value.ref a from rx)
    obtain ⟨mA, J, _⟩ := ins_get I.hok ea
    exact fun A Q E s k q => wpAny_typeOf_ref (k _ _ J.obj) q
end
/-- whether two values are seen to be equal, by the abstract heap -/
abbrev EqB := V → V → Bool → Hp → Prop
def MonB (D : EqB) : Prop := ∀ x y b H H', Ext H H' → D x y b H → D x y b H'
def EqGB (X : Cx) (n : Nat) (D : EqB) : Prop :=
  ∀ (A : Around) (pins : List (Addr × Obj)) (s : Shared) (σ : St) (H : Hp) (x y : V) (u v : Value) (b : Bool), Sub X n A → Inv X pins σ H s → RelV x u → RelV y v → D x y b H →
    wpAny (model X.prog X.w) A (eqBool u v) (fun r s' => r = b ∧ ∃ H', Inv X pins σ H' s' ∧ Ext H H') X.xe s
def RcGB (X : Cx) (n : Nat) (D : EqB) : Prop :=
  ∀ (A : Around) (pins : List (Addr × Obj)) (s : Shared) (σ : St) (H : Hp) (x y : V) (u v : Value) (b : Bool), Sub X n A → Inv X pins σ H s → RelV x u → RelV y v → D x y b H →
    wpAny (model X.prog X.w) A (richCompare .Eq u v) (fun r s' => r = .bool b ∧ ∃ H', Inv X pins σ H' s' ∧ Ext H H') X.xe s
def RcNB (X : Cx) (n : Nat) (D : EqB) : Prop :=
  ∀ (A : Around) (pins : List (Addr × Obj)) (s : Shared) (σ : St) (H : Hp) (x y : V) (u v : Value) (b : Bool), Sub X n A → Inv X pins σ H s → RelV x u → RelV y v → D x y b H →
    wpAny (model X.prog X.w) A (richCompare .NotEq u v) (fun r s' => r = .bool (!b) ∧ ∃ H', Inv X pins σ H' s' ∧ Ext H H') X.xe s
section
variable {X : Cx} {n m : Nat} {D D' : EqB}
theorem EqGB.mono (h : EqGB X n D) (hn : n ≤ m) : EqGB X m D := fun A pins s σ H x y u v b sb => h A pins s σ H x y u v b (sb.mono hn)
theorem EqGB.or (h : EqGB X n D) (h' : EqGB X n D') : EqGB X n (fun x y b H => D x y b H ∨ D' x y b H) := fun A pins s σ H x y u v b sb I rx ry d => by
  rcases d with d | d
  · exact h A pins s σ H x y u v b sb I rx ry d
  · exact h' A pins s σ H x y u v b sb I rx ry d
theorem RcGB.or (h : RcGB X n D) (h' : RcGB X n D') : RcGB X n (fun x y b H => D x y b H ∨ D' x y b H) := fun A pins s σ H x y u v b sb I rx ry d => by
  rcases d with d | d
  · exact h A pins s σ H x y u v b sb I rx ry d
  · exact h' A pins s σ H x y u v b sb I rx ry d
theorem MonB.or (h : MonB D) (h' : MonB D') : MonB (fun x y b H => D x y b H ∨ D' x y b H) := fun x y b H H' e d => d.elim (fun d => .inl (h x y b H H' e d)) fun d => .inr (h' x y b H H' e d)
/-- flat values -/
def DFlatB : EqB := fun x y b _ => flatV x = true ∧ flatV y = true ∧ eqV x y = b
theorem monB_flat : MonB DFlatB := fun _ _ _ _ _ _ d => d
theorem eqGB_flat : EqGB X 0 DFlatB := by
  intro A pins s σ H x y u v b sb I rx ry d
  obtain ⟨fx, fy, e⟩ := d
  have q := eqAt_V (A := A) (s := s) rx ry fx fy
  rw [e] at q
  exact q X.prog X.w X.xe _ ⟨rfl, H, I, Ext.rfl'⟩
/-- the same object -/
def DSameB : EqB := fun x y b _ => b = true ∧ x = y ∧ ∃ a, x = .ref a
theorem monB_same : MonB DSameB := fun _ _ _ _ _ _ d => d
theorem eqGB_same : EqGB X 0 DSameB := by
  intro A pins s σ H x y u v b sb I rx ry d
  obtain ⟨rfl, rfl, a, rfl⟩ := d
  cases rx
  cases ry
  exact SeqAt.EqAt.same (A := A) (s := s) (.ref a) X.prog X.w X.xe _ ⟨rfl, H, I, Ext.rfl'⟩
/-- item by item -/
def PrsB (D : EqB) (d : Nat → Bool) (xs ys : List V) (H : Hp) : Prop := ∀ (i : Nat) x y, xs[i]? = some x → ys[i]? = some y → D x y (d i) H
theorem PrsB.mon (hD : MonB D) {d : Nat → Bool} {xs ys : List V} {H H' : Hp} (e : Ext H H') (p : PrsB D d xs ys H) : PrsB D d xs ys H' := fun i x y h1 h2 => hD x y _ H H' e (p i x y h1 h2)
/-- what comes out of rows of items -/
def allD (d : Nat → Bool) (n : Nat) : Bool := (List.range n).all d
theorem allD_true {d : Nat → Bool} {n : Nat} (h : ∀ j, j < n → d j = true) : allD d n = true := by
  unfold allD
  rw [List.all_eq_true]
  exact fun j hj => h j (List.mem_range.mp hj)
theorem allD_false {d : Nat → Bool} {n i : Nat} (hi : i < n) (h : d i = false) : allD d n = false := by
  unfold allD
  rw [List.all_eq_false]
  exact ⟨i, List.mem_range.mpr hi, by rw [h]; decide⟩
theorem turnGB (hD : MonB D) (h : EqGB X n D) {A : Around} (sb : Sub X (n + 1) A) {pins : List (Addr × Obj)} {σ : St} {H : Hp} {d : Nat → Bool} {xs ys : List V} {its its2 : List Value} (p : PrsB D d xs ys H) (r : Vals xs its) (r2 : Vals ys its2)
    (i : Nat) (h1 : i < its.toArray.size) (h2 : i < its2.toArray.size) (s' : Shared) (l : LoopI X pins σ H s') :
    wpAny (model X.prog X.w) A.in1 (eqBool its.toArray[i] its2.toArray[i]) (fun r s2 => r = d i ∧ LoopI X pins σ H s2) X.xe s' := by
  obtain ⟨H1, I1, e1⟩ := l
  have g1 : its[i]? = some its.toArray[i] := by
    have h1' : i < its.length := by simpa using h1
    rw [List.getElem?_eq_getElem h1'] <;> simp
  have g2 : its2[i]? = some its2.toArray[i] := by
    have h2' : i < its2.length := by simpa using h2
    rw [List.getElem?_eq_getElem h2'] <;> simp
  have k1 : i < xs.length := by rw [r.length]; simpa using h1
  have k2 : i < ys.length := by rw [r2.length]; simpa using h2
  obtain ⟨u, hu, ru⟩ := r.get (List.getElem?_eq_getElem k1)
  obtain ⟨v, hv, rv⟩ := r2.get (List.getElem?_eq_getElem k2)
  rw [g1] at hu
  rw [g2] at hv
  rw [Option.some.inj hu, Option.some.inj hv]
  refine wpAny_mono (h A.in1 pins s' σ H1 _ _ u v _ sb.in1 I1 ru rv (hD _ _ _ _ _ e1 (p i _ _ (List.getElem?_eq_getElem k1) (List.getElem?_eq_getElem k2)))) (fun r s2 q => ?_) fun _ _ x => x
  obtain ⟨hr, H2, I2, e2⟩ := q
  exact ⟨hr, H2, I2, e1.trans e2⟩
/-- lists -/
def DListB (D : EqB) : EqB := fun x y b H => ∃ a c xs ys d, x = .ref a ∧ y = .ref c ∧ H a = some (.lst xs) ∧ H c = some (.lst ys) ∧ (xs.length = ys.length → PrsB D d xs ys H) ∧ b = (decide (xs.length = ys.length) && allD d xs.length)
/-- tuples -/
def DTupB (K : PySem.W.Frag) (D : EqB) : EqB := fun x y b H => ∃ a c xs ys d, x = .ref a ∧ y = .ref c ∧ SqT K H a xs ∧ SqT K H c ys ∧ PrsB D d xs ys H ∧ b = (allD d (min xs.length ys.length) && decide (xs.length = ys.length))
theorem monB_list (hD : MonB D) : MonB (DListB D) := fun x y b H H' e d => by
  obtain ⟨a, c, xs, ys, dd, hx, hy, h1, h2, p, r⟩ := d
  exact ⟨a, c, xs, ys, dd, hx, hy, e _ _ h1, e _ _ h2, fun z => (p z).mon hD e, r⟩
theorem monB_tup {K : PySem.W.Frag} (hD : MonB D) : MonB (DTupB K D) := fun x y b H H' e d => by
  obtain ⟨a, c, xs, ys, dd, hx, hy, h1, h2, p, r⟩ := d
  exact ⟨a, c, xs, ys, dd, hx, hy, h1.ext e, h2.ext e, p.mon hD e, r⟩
theorem rcGB_list (hD : MonB D) (h : EqGB X n D) : RcGB X (n + 1) (DListB D) := by
  intro A pins s σ H x y u v b sb I rx ry d
  obtain ⟨a, c, xs, ys, dd, rfl, rfl, ha, hb, p, rfl⟩ := d
  cases rx
  cases ry
  obtain ⟨z0, its0, k0, r0, e0⟩ := I.hok a _ ha
  obtain ⟨z1, its1, k1, r1, e1'⟩ := I.hok c _ hb
  by_cases hlen : xs.length = ys.length
  · rw [decide_eq_true hlen, Bool.true_and]
    refine wpAny_richCompare_same_room (op := .Eq) ⟨_, e0, rfl⟩ ⟨_, e1', rfl⟩ F.slot_list_eq (GQ.call_here F.slot_list_eq ⟨_, e0, rfl⟩ F.entry_list_eq (F.args_list_eq_2 _ _) ?_) sb.room.units0
    refine GQ.list_eqB (R := wants (fun v s' => v ≠ .notImplemented ∧ (v = .bool (allD dd xs.length) ∧ LoopI X pins σ H s')) X.xe) a c xs.length dd (fun _ s' => LoopI X pins σ H s') (fun i s' q => ?_) (fun i s' hi hd q => ?_) (fun s' q hall => ?_) ⟨H, I, Ext.rfl'⟩
    · obtain ⟨H1, I1, e1⟩ := id q
      obtain ⟨z, its, k, r, e⟩ := I1.hok a _ (e1 _ _ ha)
      obtain ⟨z2, its2, k2, r2, e2⟩ := I1.hok c _ (e1 _ _ hb)
      refine ⟨its.toArray, its2.toArray, k, k2, e, e2, by rw [List.size_toArray, ← r.length], by rw [List.size_toArray, ← r2.length, ← hlen], fun h1 h2 => ?_⟩
      exact turnGB hD h sb (p hlen) r r2 i h1 h2 s' q
    · exact ⟨(fun x => nomatch x), by rw [allD_false hi hd], q⟩
    · exact ⟨(fun x => nomatch x), by rw [allD_true hall], q⟩
  · rw [decide_eq_false hlen, Bool.false_and]
    refine wpAny_richCompare_same_room (op := .Eq) ⟨_, e0, rfl⟩ ⟨_, e1', rfl⟩ F.slot_list_eq (GQ.call_here F.slot_list_eq ⟨_, e0, rfl⟩ F.entry_list_eq (F.args_list_eq_2 _ _) ?_) sb.room.units0
    exact GQ.list_eqN (R := wants (fun v s' => v ≠ .notImplemented ∧ (v = .bool false ∧ LoopI X pins σ H s')) X.xe) a c e0 e1' (by rw [List.size_toArray, List.size_toArray, ← r0.length, ← r1.length]; exact hlen) ⟨(fun x => nomatch x), rfl, H, I, Ext.rfl'⟩
theorem rcGB_tup (hD : MonB D) (h : EqGB X n D) : RcGB X (n + 1) (DTupB X.K D) := by
  intro A pins s σ H x y u v b sb I rx ry d
  obtain ⟨a, c, xs, ys, dd, rfl, rfl, ha, hb, p, rfl⟩ := d
  cases rx
  cases ry
  obtain ⟨its, r, e, z⟩ := I.tuple ha
  obtain ⟨its2, r2, e2, z2⟩ := I.tuple hb
  have l1 : its.toArray.size = xs.length := by rw [List.size_toArray, ← r.length]
  have l2 : its2.toArray.size = ys.length := by rw [List.size_toArray, ← r2.length]
  obtain ⟨⟨cls, dd1, data, sl⟩, ho, hc, nn, hd⟩ := id e
  obtain ⟨⟨cls2, dd2, data2, sl2⟩, ho2, hc2, nn2, hd2⟩ := id e2
  simp only at hc hd hc2 hd2
  subst hc hd hc2 hd2
  refine wpAny_richCompare_same_room (op := .Eq) ⟨_, ho, rfl⟩ ⟨_, ho2, rfl⟩ F.slot_tuple_eq (GQ.call_here F.slot_tuple_eq ⟨_, ho, rfl⟩ F.entry_tuple_eq (F.args_tuple_eq_2 _ _) ?_) sb.room.units0
  refine GQ.tuple_eqB (R := wants (fun v s' => v ≠ .notImplemented ∧ (v = .bool (allD dd (min xs.length ys.length) && decide (xs.length = ys.length)) ∧ LoopI X pins σ H s')) X.xe) a c its.toArray its2.toArray nn nn2 dd1 dd2 sl sl2 dd (fun _ s' => LoopI X pins σ H s') (fun i h1 h2 s' q => turnGB hD h sb p r r2 i h1 h2 s' q) (fun i s' h1 h2 hf q => ⟨(fun x => nomatch x), by rw [allD_false (by omega) hf, Bool.false_and], q⟩) (fun s' q hall => ?_) ho ho2 ⟨H, I, Ext.rfl'⟩
  rw [l1, l2] at hall ⊢
  refine ⟨(fun x => nomatch x), ?_, q⟩
  rw [allD_true hall, Bool.true_and]
  congr 1
/-- what is the same is equal -/
def ReflB (X : Cx) (D : EqB) : Prop := ∀ (pins : List (Addr × Obj)) (σ : St) (H : Hp) (s : Shared), Inv X pins σ H s → ∀ x b, D x x b H → b = true
theorem eqV_self {x : V} (f : flatV x = true) : eqV x x = true := by
  cases x with
  | non => rfl
  | bl a => exact beq_self_eq_true a
  | int a => exact beq_self_eq_true a
  | str a => exact beq_self_eq_true a
  | _ => cases f
theorem refl_flat : ReflB X DFlatB := fun _ _ _ _ _ x b d => by
  obtain ⟨f, _, e⟩ := d
  rw [← e]
  exact eqV_self f
theorem refl_same : ReflB X DSameB := fun _ _ _ _ _ x b d => d.1
theorem ReflB.or (h : ReflB X D) (h' : ReflB X D') : ReflB X (fun x y b H => D x y b H ∨ D' x y b H) := fun pins σ H s I x b d => d.elim (h pins σ H s I x b) (h' pins σ H s I x b)
theorem refl_list (h : ReflB X D) : ReflB X (DListB D) := fun pins σ H s I x b d => by
  obtain ⟨a, c, xs, ys, dd, rfl, e, h1, h2, p, rfl⟩ := d
  cases e
  have e : xs = ys := by
    rw [h1] at h2
    cases h2
    rfl
  subst e
  rw [decide_eq_true rfl, Bool.true_and]
  refine allD_true fun j hj => ?_
  have g := List.getElem?_eq_getElem hj
  exact h pins σ H s I _ _ (p rfl j _ _ g g)
theorem refl_tup (h : ReflB X D) : ReflB X (DTupB X.K D) := fun pins σ H s I x b d => by
  obtain ⟨a, c, xs, ys, dd, rfl, e, h1, h2, p, rfl⟩ := d
  cases e
  obtain rfl := I.tuple_inj h1 h2
  rw [decide_eq_true rfl, Bool.and_true, Nat.min_self]
  refine allD_true fun j hj => ?_
  have g := List.getElem?_eq_getElem hj
  exact h pins σ H s I _ _ (p j _ _ g g)
/-- from a rich comparison of references to == inside a list or tuple -/
theorem RcGB.eqG (h : RcGB X n D) (rf : ReflB X D) (hr : ∀ x y b H, D x y b H → ∃ a c, x = .ref a ∧ y = .ref c) : EqGB X n D := by
  intro A pins s σ H x y u v b sb I rx ry d
  obtain ⟨a, c, rfl, rfl⟩ := hr _ _ _ _ d
  cases rx
  cases ry
  by_cases hab : a = c
  · subst hab
    rw [rf pins σ H s I _ _ d]
    exact SeqAt.EqAt.same (A := A) (s := s) (.ref a) X.prog X.w X.xe _ ⟨rfl, H, I, Ext.rfl'⟩
  · refine GQ.eqBool_refG hab (wpAny_mono (h A pins s σ H (.ref a) (.ref c) _ _ b sb I rfl rfl d) (fun r s' q => ?_) fun _ _ x => x)
    obtain ⟨hr', q⟩ := q
    exact ⟨b, hr', rfl, q⟩
theorem eqGB_list (hD : MonB D) (h : EqGB X n D) (rf : ReflB X D) : EqGB X (n + 1) (DListB D) := (rcGB_list hD h).eqG (refl_list rf) fun _ _ _ _ d => let ⟨a, b, _, _, _, hx, hy, _⟩ := d; ⟨a, b, hx, hy⟩
theorem eqGB_tup (hD : MonB D) (h : EqGB X n D) (rf : ReflB X D) : EqGB X (n + 1) (DTupB X.K D) := (rcGB_tup hD h).eqG (refl_tup rf) fun _ _ _ _ d => let ⟨a, b, _, _, _, hx, hy, _⟩ := d; ⟨a, b, hx, hy⟩
theorem prsB_nil {D : EqB} {d : Nat → Bool} {H : Hp} : PrsB D d [] [] H := fun i x y h _ => by simp at h
theorem prsB_cons {D : EqB} {b : Bool} {bs : List Bool} {x y : V} {xs ys : List V} {H : Hp} (h : D x y b H) (p : PrsB D (fun i => bs.getD i true) xs ys H) : PrsB D (fun i => (b :: bs).getD i true) (x :: xs) (y :: ys) H := fun i u v h1 h2 => by
  cases i with
  | zero =>
    simp at h1 h2
    subst h1; subst h2
    exact h
  | succ i =>
    simp at h1 h2
    exact p i u v h1 h2
theorem allD_list (bs : List Bool) : allD (fun i => bs.getD i true) bs.length = bs.all id := by
  cases h : bs.all id with
  | true =>
    rw [List.all_eq_true] at h
    refine allD_true fun j hj => ?_
    show bs.getD j true = true
    rw [List.getD_eq_getElem?_getD, List.getElem?_eq_getElem hj]
    exact h _ (List.getElem_mem hj)
  | false =>
    rw [List.all_eq_false] at h
    obtain ⟨b, hb, hf⟩ := h
    obtain ⟨j, hj, e⟩ := List.getElem_of_mem hb
    refine allD_false hj ?_
    show bs.getD j true = false
    rw [List.getD_eq_getElem?_getD, List.getElem?_eq_getElem hj]
    show bs[j] = false
    rw [e]
    exact Bool.eq_false_iff.mpr hf
end
/-- what the own == promises -/
def spEqB (R : Addr → V → Bool → Hp → Prop) : Sp := fun vs H Q _ => ∃ a y b, vs = [.ref a, y] ∧ R a y b H ∧ ∀ H', Ext H H' → Q (.bl b) H'
/-- an own == of a class -/
structure EqCB (P : Program) (w : World) (K : PySem.W.Frag) (mg : Str → Option Value) (base : Heap) (n : Nat) (R : Addr → V → Bool → Hp → Prop) (C : Addr) : Prop where
  ex : ∃ f fd ps, FnOk P w K mg base CX0 n f fd ps (spEqB R) ∧ PySem.W.findIn K (.ref C) "__eq__" = some (some (.ref f)) ∧ PySem.W.isFn K (.ref f) = true ∧ Binds K fd ps []
def DOwnB (K : PySem.W.Frag) (C : Addr) (R : Addr → V → Bool → Hp → Prop) : EqB := fun x y b H => ∃ a dx fs t, x = .ref a ∧ H a = some (.ins C dx fs) ∧ TyE H y t ∧ PySem.W.notFirst K C t = true ∧ R a y b H
def DOthB (K : PySem.W.Frag) (C : Addr) (R : Addr → V → Bool → Hp → Prop) : EqB := fun x y b H => ∃ a dx fs T, y = .ref a ∧ H a = some (.ins C dx fs) ∧ TyE H x (.type T) ∧ PySem.W.mroIn K C (.type T) = some false ∧ R a x b H
section
variable {X : Cx} {n : Nat} {C f : Addr} {fd : FuncData} {ps : List Str} {R : Addr → V → Bool → Hp → Prop}
theorem own_call (F : FnOk X.prog X.w X.K X.mg X.base CX0 n f fd ps (spEqB R)) (hb : Binds X.K fd ps []) {A : Around} (sb : Sub X n A) {pins : List (Addr × Obj)} {s : Shared} {σ : St} {H : Hp} (I : Inv X pins σ H s) {a : Addr} {y : V} {v : Value} (ry : RelV y v) {b : Bool} (hr : R a y b H) :
    wpAny (model X.prog X.w) A (call (.ref f) [.ref a, v]) (fun r s' => r = .bool b ∧ ∃ H', Inv X pins σ H' s' ∧ Ext H H') X.xe s := by
  have hsp : spEqB R [.ref a, y] H (fun v H' => v = .bl b ∧ Ext H H') E0 := ⟨a, y, b, rfl, hr, fun H' e => ⟨rfl, e⟩⟩
  have e0 : Env0 X.prog X.w X.K X.mg X.base A X.stack s H := by
    have e := I.env0
    exact ⟨by rw [sb.fr]; exact e.frames, e.mod, e.bs, e.bsz, e.funs, e.frf, e.hok, e.bare⟩
  have hl := F.len _ _ _ _ hsp
  have r2 : Vals [V.ref a, y] [Value.ref a, v] := .cons rfl (.cons ry .nil)
  refine wpAny_call (codeAny_mono (F.run A X.stack s H ⟨[.ref a, v], []⟩ [.ref a, v] [.ref a, y] _ E0 sb.room e0 (by
    have := hb s [.ref a, v] I.kIn (by simpa using hl)
    simpa using this) r2 hsp) fun r s' hq => ?_)
  cases r with
  | error e => exact pass0 pins σ H s e s' I hq
  | ok fl =>
    cases fl with
    | ret w =>
      obtain ⟨z, H', I', rz, ez, ex⟩ := I.after hq
      subst ez
      cases rz
      exact ⟨rfl, H', I', ex⟩
    | next => exact False.elim hq
    | brk => exact False.elim hq
    | cont => exact False.elim hq
theorem EqCB.rc (h : EqCB X.prog X.w X.K X.mg X.base n R C) : RcGB X n (DOwnB X.K C R) := by
  obtain ⟨f, fd, ps, F, hs, hf, hb⟩ := h.ex
  intro A pins s σ H x y u v b sb I rx ry d
  obtain ⟨a, dx, fs, t, rfl, ha, ty, nf, hr⟩ := d
  cases rx
  obtain ⟨mA, J, _⟩ := ins_get I.hok ha
  obtain ⟨od, J, _⟩ := J.look
  obtain ⟨m, hF⟩ := I.fr
  refine PySem.W.cmp_K (op := .Eq) (tb := t) sb.room.units0 hF I.ok.mod.kin J (looks_b I ry ty) nf hs hf ?_
  refine wpAny_mono (own_call F hb sb I ry hr) (fun r s' q => ?_) fun _ _ x => x
  obtain ⟨rfl, q⟩ := q
  exact ⟨rfl, q⟩
theorem EqCB.rcN (h : EqCB X.prog X.w X.K X.mg X.base n R C) (hne : PySem.W.findIn X.K (.ref C) "__ne__" = some (some (.builtin "object.__ne__"))) (hm : PySem.W.mroIn X.K C (.type "object") = some true) : RcNB X (n + 1) (DOwnB X.K C R) := by
  obtain ⟨f, fd, ps, F, hs, hf, hb⟩ := h.ex
  intro A pins s σ H x y u v b sb I rx ry d
  obtain ⟨a, dx, fs, t, rfl, ha, ty, nf, hr⟩ := d
  cases rx
  obtain ⟨mA, J, _⟩ := ins_get I.hok ha
  obtain ⟨od, J, _⟩ := J.look
  obtain ⟨m, hF⟩ := I.fr
  refine PySem.W.ne_K (tb := t) ?_ hF I.ok.mod.kin J (looks_b I ry ty) nf hne hm hs hf ?_
  · exact sb.in1.room.units0
  refine wpAny_mono (own_call F hb sb.in1 I ry hr) (fun r s' q => ?_) fun _ _ x => x
  obtain ⟨rfl, q⟩ := q
  exact ⟨b, rfl, rfl, q⟩
theorem EqCB.rcO (h : EqCB X.prog X.w X.K X.mg X.base n R C) : RcGB X n (DOthB X.K C R) := by
  obtain ⟨f, fd, ps, FF, hs, hf, hb⟩ := h.ex
  intro A pins s σ H x y u v b sb I rx ry d
  obtain ⟨a, dx, fs, T, rfl, ha, ty, mro, hr⟩ := d
  cases ry
  obtain ⟨mA, J, _⟩ := ins_get I.hok ha
  have obj := J.obj
  obtain ⟨od, J, _⟩ := J.look
  obtain ⟨m, hF⟩ := I.fr
  have back : wpAny (model X.prog X.w) A (call (.ref f) [.ref a, u]) (PySem.W.CmpBack fun r s' => r = .bool b ∧ ∃ H', Inv X pins σ H' s' ∧ Ext H H') X.xe s := by
    refine wpAny_mono (own_call FF hb sb I rx hr) (fun r s' q => ?_) fun _ _ x => x
    obtain ⟨rfl, q⟩ := q
    exact ⟨rfl, q⟩
  have lk : ∀ M : Model, PySem.W.Looks M s.heap (isSubtype (.ref C) (.type T)) false := fun M => PySem.W.looks_mroIn I.kIn mro
  have hu := sb.room.units0
  have kin := I.ok.mod.kin
  cases ty with
  | non =>
    cases (show u = Value.none from rx)
    exact PySem.W.eqR_K hu hF kin J (typeIs_none s) F.slot_NoneType_eq mro hs hf (fun Q' q => call_meets F.slot_NoneType_eq (typeIs_none s) F.entry_NoneType_eq (F.args_NoneType_eq_2 _ _) (SeqAt.non_eq_ins a) q) back
  | bl z =>
    cases (show u = Value.bool z from rx)
    exact PySem.W.eqR_K hu hF kin J (PySem.typeIs_bool s z) F.slot_bool_eq mro hs hf (fun Q' q => call_meets F.slot_bool_eq (PySem.typeIs_bool s z) F.entry_int_eq (F.args_int_eq_2 _ _) (SeqAt.bool_eq_ins z a C dx) ⟨obj, q⟩) back
  | int i =>
    obtain ⟨t, q⟩ := (show ∃ t, u = Value.int i t from rx)
    cases q
    exact PySem.W.eqR_K hu hF kin J (typeIs_int s i t) F.slot_int_eq mro hs hf (fun Q' q => call_meets F.slot_int_eq (typeIs_int s i t) F.entry_int_eq (F.args_int_eq_2 _ _) (SeqAt.int_eq_ins i t a C dx) ⟨obj, q⟩) back
  | str z =>
    obtain ⟨t, q⟩ := (show ∃ t, u = Value.str z t from rx)
    cases q
    exact PySem.W.eqR_K hu hF kin J (typeIs_str s z t) F.slot_str_eq mro hs hf (fun Q' q => call_meets F.slot_str_eq (typeIs_str s z t) F.entry_str_eq (F.args_str_eq_2 _ _) (SeqAt.str_eq_ins z t a C dx) ⟨obj, q⟩) back
  | @lst a2 xs ea =>
    cases (show u = Value.ref a2 from rx)
    obtain ⟨_, _, n, _, h1⟩ := (show ObjOk X.prog X.w H s.heap a2 (.lst xs) from I.hok a2 _ ea)
    exact PySem.W.eqR_K hu hF kin J ⟨_, h1, rfl⟩ F.slot_list_eq mro hs hf (fun Q' q => call_meets F.slot_list_eq ⟨_, h1, rfl⟩ F.entry_list_eq (F.args_list_eq_2 _ _) (SeqAt.lst_eq_ins a2 _ _ a C dx) ⟨h1, obj, lk, q⟩) back
  | @tup a2 xs ea =>
    cases (show u = Value.ref a2 from rx)
    obtain ⟨its, r, e, z⟩ := I.tuple (a := a2) (xs := xs) (.inl (.inl ea))
    obtain ⟨⟨cls, dd1, data, sl⟩, ho, hc, nn, hd⟩ := id e
    simp only at hc hd
    subst hc hd
    exact PySem.W.eqR_K hu hF kin J ⟨_, ho, rfl⟩ F.slot_tuple_eq mro hs hf (fun Q' q => call_meets F.slot_tuple_eq ⟨_, ho, rfl⟩ F.entry_tuple_eq (F.args_tuple_eq_2 _ _) (SeqAt.tup_eq_ins a2 _ _ _ _ a C dx) ⟨ho, obj, lk, q⟩) back
  | @dK a2 kvs ea =>
    cases (show u = Value.ref a2 from rx)
    obtain ⟨_, _, vs, _, o, es, ep, h1, h2, h3, _⟩ := (show ObjOk X.prog X.w H s.heap a2 (.dK kvs) from I.hok a2 _ ea)
    obtain ⟨cls, dd1, data, sl⟩ := o
    have hc : cls = .type "dict" := h2.1
    have hd : data = .dict es ep := h3
    subst hc hd
    exact PySem.W.eqR_K hu hF kin J ⟨_, h1, rfl⟩ F.slot_dict_eq mro hs hf (fun Q' q => call_meets F.slot_dict_eq ⟨_, h1, rfl⟩ F.entry_dict_eq (F.args_dict_eq_2 _ _) (SeqAt.dct_eq_ins a2 _ _ _ _ a C dx) ⟨h1, obj, lk, q⟩) back
end
/-- x == y, x != y as expressions -/
def rEqB (D : EqB) : R2 := fun x y H Q => ∃ b, D x y b H ∧ ∀ H', Ext H H' → Q (.bl b) H'
def rNeB (D : EqB) : R2 := fun x y H Q => ∃ b, D x y b H ∧ ∀ H', Ext H H' → Q (.bl (!b)) H'
section
variable {X : Cx} {n : Nat} {D : EqB}
theorem op_eqB (h : RcGB X n D) (hr : Room n X.A) : OpR X (compareOp .Eq) (rEqB D) := by
  intro pins s σ H x y v u Q I rx ry hq
  obtain ⟨b, d, q⟩ := hq
  show wpAny (model X.prog X.w) X.A (richCompare .Eq v u) (EP X pins σ Q) X.xe s
  refine wpAny_mono (h X.A pins s σ H x y v u b ⟨hr, rfl⟩ I rx ry d) (fun r s' z => ?_) fun _ _ x => x
  obtain ⟨hr', H', I', e⟩ := z
  subst hr'
  exact ⟨.bl b, H', I', rfl, q H' e⟩
theorem op_neB (h : RcNB X n D) (hr : Room n X.A) : OpR X (compareOp .NotEq) (rNeB D) := by
  intro pins s σ H x y v u Q I rx ry hq
  obtain ⟨b, d, q⟩ := hq
  show wpAny (model X.prog X.w) X.A (richCompare .NotEq v u) (EP X pins σ Q) X.xe s
  refine wpAny_mono (h X.A pins s σ H x y v u b ⟨hr, rfl⟩ I rx ry d) (fun r s' z => ?_) fun _ _ x => x
  obtain ⟨hr', H', I', e⟩ := z
  subst hr'
  exact ⟨.bl (!b), H', I', rfl, q H' e⟩
end
end L2
namespace Sw
open PySem PySem.Spec PyProof.Rows L2
/-! ### 1. the text by places -/
def top (i : Nat) : Stmt := PySem.Challenge.pw_sampleweave_k28_equal_and_long.main.body.getD i (.Pass ⟨0, 0, 0, 0⟩)
abbrev FnP (K : PySem.W.Frag) (x : Str) (st : Stmt) (f : Addr) (fd : FuncData) : Prop := FunD K x x (defArgs st) (defBody st) (defScope st) [] [] f fd
abbrev sWall : Stmt := top 0
abbrev sNoNodeInit : Stmt := inClass (top 3) 0
abbrev sNoNameInit : Stmt := inClass (top 5) 0
abbrev sTwiceInit : Stmt := inClass (top 6) 0
abbrev sUnknownInit : Stmt := inClass (top 7) 0
abbrev sNoPlaceInit : Stmt := inClass (top 8) 0
abbrev sNoDelayInit : Stmt := inClass (top 9) 0
abbrev sTakenInit : Stmt := inClass (top 10) 0
abbrev sBareInit : Stmt := inClass (top 11) 0
abbrev sUnfedInit : Stmt := inClass (top 12) 0
abbrev sWhole : Stmt := top 16
abbrev sWithin : Stmt := top 17
abbrev sTruth : Stmt := top 18
abbrev sWholes : Stmt := top 19
abbrev sAreWholesWithin : Stmt := top 20
abbrev sListOf : Stmt := top 21
abbrev sNeed : Stmt := top 22
abbrev sIsName : Stmt := top 23
abbrev sIsOneOf : Stmt := top 24
abbrev sNodeInit : Stmt := inClass (top 31) 0
abbrev sNodeTakes : Stmt := inClass (top 31) 1
abbrev sNodeGives : Stmt := inClass (top 31) 2
abbrev sNodeLate : Stmt := inClass (top 31) 3
abbrev sNodeBegin : Stmt := inClass (top 31) 4
abbrev sNodeFresh : Stmt := inClass (top 31) 5
abbrev sNodeFire : Stmt := inClass (top 31) 6
abbrev sNodeBegun : Stmt := inClass (top 31) 7
abbrev sNodeShown : Stmt := inClass (top 31) 8
abbrev sInletInit : Stmt := inClass (top 32) 0
abbrev sInletTakes : Stmt := inClass (top 32) 1
abbrev sInletGives : Stmt := inClass (top 32) 2
abbrev sInletLate : Stmt := inClass (top 32) 3
abbrev sInletBegin : Stmt := inClass (top 32) 4
abbrev sInletEq : Stmt := inClass (top 32) 5
abbrev sInletRepr : Stmt := inClass (top 32) 6
abbrev sOutletInit : Stmt := inClass (top 33) 0
abbrev sOutletTakes : Stmt := inClass (top 33) 1
abbrev sOutletGives : Stmt := inClass (top 33) 2
abbrev sOutletLate : Stmt := inClass (top 33) 3
abbrev sOutletBegin : Stmt := inClass (top 33) 4
abbrev sOutletEq : Stmt := inClass (top 33) 5
abbrev sOutletRepr : Stmt := inClass (top 33) 6
abbrev sGainInit : Stmt := inClass (top 34) 0
abbrev sGainTakes : Stmt := inClass (top 34) 1
abbrev sGainGives : Stmt := inClass (top 34) 2
abbrev sGainLate : Stmt := inClass (top 34) 3
abbrev sGainBegin : Stmt := inClass (top 34) 4
abbrev sGainFresh : Stmt := inClass (top 34) 5
abbrev sGainFire : Stmt := inClass (top 34) 6
abbrev sGainWork : Stmt := inClass (top 34) 7
abbrev sGainFactor : Stmt := inClass (top 34) 8
abbrev sGainTurned : Stmt := inClass (top 34) 9
abbrev sGainBegun : Stmt := inClass (top 34) 10
abbrev sGainEq : Stmt := inClass (top 34) 11
abbrev sGainRepr : Stmt := inClass (top 34) 12
abbrev sMixInit : Stmt := inClass (top 35) 0
abbrev sMixTakes : Stmt := inClass (top 35) 1
abbrev sMixGives : Stmt := inClass (top 35) 2
abbrev sMixLate : Stmt := inClass (top 35) 3
abbrev sMixBegin : Stmt := inClass (top 35) 4
abbrev sMixFresh : Stmt := inClass (top 35) 5
abbrev sMixFire : Stmt := inClass (top 35) 6
abbrev sMixWork : Stmt := inClass (top 35) 7
abbrev sMixBegun : Stmt := inClass (top 35) 8
abbrev sMixEq : Stmt := inClass (top 35) 9
abbrev sMixRepr : Stmt := inClass (top 35) 10
abbrev sTimesInit : Stmt := inClass (top 36) 0
abbrev sTimesTakes : Stmt := inClass (top 36) 1
abbrev sTimesGives : Stmt := inClass (top 36) 2
abbrev sTimesLate : Stmt := inClass (top 36) 3
abbrev sTimesBegin : Stmt := inClass (top 36) 4
abbrev sTimesFresh : Stmt := inClass (top 36) 5
abbrev sTimesFire : Stmt := inClass (top 36) 6
abbrev sTimesWork : Stmt := inClass (top 36) 7
abbrev sTimesBegun : Stmt := inClass (top 36) 8
abbrev sTimesEq : Stmt := inClass (top 36) 9
abbrev sTimesRepr : Stmt := inClass (top 36) 10
abbrev sChooseInit : Stmt := inClass (top 37) 0
abbrev sChooseTakes : Stmt := inClass (top 37) 1
abbrev sChooseGives : Stmt := inClass (top 37) 2
abbrev sChooseLate : Stmt := inClass (top 37) 3
abbrev sChooseBegin : Stmt := inClass (top 37) 4
abbrev sChooseFresh : Stmt := inClass (top 37) 5
abbrev sChooseFire : Stmt := inClass (top 37) 6
abbrev sChooseWork : Stmt := inClass (top 37) 7
abbrev sChooseBegun : Stmt := inClass (top 37) 8
abbrev sChooseEq : Stmt := inClass (top 37) 9
abbrev sChooseRepr : Stmt := inClass (top 37) 10
abbrev sOwnInit : Stmt := inClass (top 38) 0
abbrev sOwnTakes : Stmt := inClass (top 38) 1
abbrev sOwnGives : Stmt := inClass (top 38) 2
abbrev sOwnLate : Stmt := inClass (top 38) 3
abbrev sOwnBegin : Stmt := inClass (top 38) 4
abbrev sOwnFresh : Stmt := inClass (top 38) 5
abbrev sOwnFire : Stmt := inClass (top 38) 6
abbrev sOwnWork : Stmt := inClass (top 38) 7
abbrev sOwnBegun : Stmt := inClass (top 38) 8
abbrev sOwnEq : Stmt := inClass (top 38) 9
abbrev sOwnRepr : Stmt := inClass (top 38) 10
abbrev sAllReached : Stmt := top 40
abbrev sNodesByName : Stmt := top 45
abbrev sCheckWire : Stmt := top 46
abbrev sWiresByGoal : Stmt := top 47
abbrev sRefuseBare : Stmt := top 48
abbrev sWiresBySource : Stmt := top 49
abbrev sRefuseUnfed : Stmt := top 50
abbrev sWeaveInit : Stmt := inClass (top 51) 0
abbrev sWeaveNames : Stmt := inClass (top 51) 1
abbrev sWeaveNode : Stmt := inClass (top 51) 2
abbrev sWeaveWires : Stmt := inClass (top 51) 3
abbrev sWeaveInlets : Stmt := inClass (top 51) 4
abbrev sWeaveOutlets : Stmt := inClass (top 51) 5
abbrev sWeaveInto : Stmt := inClass (top 51) 6
abbrev sWeaveOutOf : Stmt := inClass (top 51) 7
abbrev sWeavePut : Stmt := inClass (top 51) 8
abbrev sWeaveDelayed : Stmt := inClass (top 51) 9
abbrev sWeavePairs : Stmt := inClass (top 51) 10
abbrev sWeaveCheckKnown : Stmt := inClass (top 51) 11
abbrev sWeaveEq : Stmt := inClass (top 51) 12
abbrev sWeaveLen : Stmt := inClass (top 51) 13
abbrev sUpInit : Stmt := inClass (top 55) 0
abbrev sUpTakes : Stmt := inClass (top 55) 1
abbrev sUpGives : Stmt := inClass (top 55) 2
abbrev sUpLate : Stmt := inClass (top 55) 3
abbrev sUpBegin : Stmt := inClass (top 55) 4
abbrev sUpFresh : Stmt := inClass (top 55) 5
abbrev sUpFire : Stmt := inClass (top 55) 6
abbrev sUpWork : Stmt := inClass (top 55) 7
abbrev sUpBegun : Stmt := inClass (top 55) 8
abbrev sUpEq : Stmt := inClass (top 55) 9
abbrev sUpRepr : Stmt := inClass (top 55) 10
abbrev sDownInit : Stmt := inClass (top 56) 0
abbrev sDownTakes : Stmt := inClass (top 56) 1
abbrev sDownGives : Stmt := inClass (top 56) 2
abbrev sDownLate : Stmt := inClass (top 56) 3
abbrev sDownBegin : Stmt := inClass (top 56) 4
abbrev sDownFresh : Stmt := inClass (top 56) 5
abbrev sDownFire : Stmt := inClass (top 56) 6
abbrev sDownWork : Stmt := inClass (top 56) 7
abbrev sDownBegun : Stmt := inClass (top 56) 8
abbrev sDownEq : Stmt := inClass (top 56) 9
abbrev sDownRepr : Stmt := inClass (top 56) 10
abbrev sResampleInit : Stmt := inClass (top 57) 0
abbrev sResampleTakes : Stmt := inClass (top 57) 1
abbrev sResampleGives : Stmt := inClass (top 57) 2
abbrev sResampleLate : Stmt := inClass (top 57) 3
abbrev sResampleBegin : Stmt := inClass (top 57) 4
abbrev sResampleFresh : Stmt := inClass (top 57) 5
abbrev sResampleFire : Stmt := inClass (top 57) 6
abbrev sResampleWork : Stmt := inClass (top 57) 7
abbrev sResampleTapped : Stmt := inClass (top 57) 8
abbrev sResampleBegun : Stmt := inClass (top 57) 9
abbrev sResampleEq : Stmt := inClass (top 57) 10
abbrev sResampleRepr : Stmt := inClass (top 57) 11
abbrev sPot : Stmt := top 59
abbrev sLTake : Stmt := top 60
abbrev sLName : Stmt := top 61
abbrev sLSpec : Stmt := top 62
abbrev sLTakes : Stmt := top 63
abbrev sLDeed : Stmt := top 64
abbrev sLMade : Stmt := top 65
abbrev sLTurned : Stmt := top 66
abbrev sLSources : Stmt := top 67
abbrev sLPick : Stmt := top 68
abbrev sLDrawn : Stmt := top 69
abbrev sLPairs : Stmt := top 70
abbrev sLExchanged : Stmt := top 71
abbrev sLNamed : Stmt := top 72
abbrev sLOther : Stmt := top 73
abbrev sLRight : Stmt := top 74
abbrev sLaw : Stmt := top 75
/-! ### 2. pots -/
/-- all but what stands at p is as it was -/
def Kept (p : Addr) (H H' : Hp) : Prop := ∀ b o, b ≠ p → H b = some o → H' b = some o
theorem Kept.refl {p : Addr} {H : Hp} : Kept p H H := fun _ _ _ h => h
theorem Kept.trans {p : Addr} {H H1 H2 : Hp} (a : Kept p H H1) (b : Kept p H1 H2) : Kept p H H2 := fun c o n h => b c o n (a c o n h)
theorem Kept.upd {p : Addr} {H H1 : Hp} {o : HO} (a : Kept p H H1) : Kept p H (upd H1 p o) := fun c o n h => by
  rw [upd_ne n]
  exact a c o n h
theorem Kept.new {p q : Addr} {H H1 : Hp} {o : HO} (a : Kept p H H1) (h : H1 q = none) : Kept p H (L2.upd H1 q o) := fun c o n e => by
  have e1 := a c o n e
  rw [upd_ne (ne_of_none e1 h)]
  exact e1
theorem Kept.same {p : Addr} {H H1 : Hp} (a : Same H H1) : Kept p H H1 := fun c o _ e => a c o e
/-- behind a heap in which nothing stood at p -/
theorem Same.kept {p : Addr} {H0 H H1 : Hp} (s : Same H0 H) (h : H0 p = none) (k : Kept p H H1) : Same H0 H1 := fun b o e =>
  k b o (fun z => by rw [z, h] at e; cases e) (s b o e)
theorem Same.new {H H1 : Hp} {q : Addr} {o : HO} (a : Same H H1) (h : H1 q = none) : Same H (upd H1 q o) := fun c u e => by
  have e1 := a c u e
  rw [upd_ne (ne_of_none e1 h)]
  exact e1
/-- a pot: numbers from 0 on, the second one small, the third a count -/
def PotAt (H : Hp) (p : Addr) : Prop := ∃ (a : Int) (bc : Int × Nat), 0 ≤ a ∧ 0 ≤ bc.1 ∧ bc.1 < 2147483647 ∧ H p = some (.lst [.int a, .int bc.1, .int (bc.2 : Int)])
theorem PotAt.keep {H H1 : Hp} {p : Addr} (h : PotAt H p) (s : Same H H1) : PotAt H1 p := by
  obtain ⟨a, b, h1, h2, h3, h4⟩ := h
  exact ⟨a, b, h1, h2, h3, s _ _ h4⟩
/-! ### is_whole, is_whole_within -/
def NoInt (K : PySem.W.Frag) (H : Hp) (v : V) : Prop := (∃ b, v = .bl b) ∨ ∃ T : String, TyX K H v (.type T) ∧ kitB T "int" = some false
def OddV (K : PySem.W.Frag) (H : Hp) (v : V) : Prop := (∃ i : Int, v = .int i ∧ (i < 0 ∨ 400 < i)) ∨ NoInt K H v
def spWhole (K : PySem.W.Frag) : Sp := fun vs H Q _ => ∃ v : V, vs = [v] ∧ ((∃ i : Int, v = .int i ∧ Q (.bl true) H) ∨ (NoInt K H v ∧ Q (.bl false) H))
def spWithin (K : PySem.W.Frag) : Sp := fun vs H Q _ => ∃ (v : V) (lo hi : Int), vs = [v, .int lo, .int hi] ∧ ((∃ i : Int, v = .int i ∧ Q (.bl (decide (lo ≤ i ∧ i ≤ hi))) H) ∨ (NoInt K H v ∧ Q (.bl false) H))
section
variable {P : Program} {w : World} {K : PySem.W.Frag} {mg : Str → Option Value} {base : Heap} {f f1 f2 f3 f4 f5 f6 C CW CN : Addr} {fd fd1 fd2 fd3 fd4 fd5 fd6 : FuncData}
theorem scWhole : FnScope ["thing"] ["thing"] (defScope sWhole) := ⟨rfl, rfl, rfl, by decide +kernel, rfl, by decide +kernel, by decide +kernel⟩
theorem ok_whole (F : FnP K "is_whole" sWhole f fd) (gIs : mg "isinstance" = none) (gInt : mg "int" = none) (gBool : mg "bool" = none) : FnOk P w K mg base CX0 1 f fd ["thing"] (spWhole K) := by
  refine F.ok scWhole (fun vs H Q E h => ?_) (fun cdv A outer s H vs Q E hr h => ?_)
  · obtain ⟨v, rfl, _⟩ := h
    rfl
  · obtain ⟨v, rfl, h⟩ := h
    refine ⟨_, PSs.nox (pss_one (ps_ret (pe_and (pe_callB call_isi (by rfl) gIs boot_isinstance (pa_cons (pv 0) (pa_cons (pe_bltn (v := .ty "int") rfl gInt PyProof.Rows.boot_int rfl) pa_nil)))
      (pe_one (pe_not (pe_callB call_isi (by rfl) gIs boot_isinstance (pa_cons (pv 0) (pa_cons (pe_bltn (v := .ty "bool") rfl gBool PyProof.Rows.boot_bool rfl) pa_nil)))))))), ?_⟩
    rcases h with ⟨i, rfl, k⟩ | ⟨⟨b, rfl⟩ | ⟨T, ty, ki⟩, k⟩
    · refine ⟨_, rfl, _, _, _, _, true, rfl, ClsV.ty _, TyX.base (TyOf.int i), kit_ty (by decide +kernel), _, rfl, iteT ?_⟩
      exact ⟨_, rfl, _, _, _, _, false, rfl, ClsV.ty _, TyX.base (TyOf.int i), kit_ty (by decide +kernel), _, rfl, k⟩
    · refine ⟨_, rfl, _, _, _, _, true, rfl, ClsV.ty _, TyX.base (TyOf.bl b), kit_ty (by decide +kernel), _, rfl, iteT ?_⟩
      exact ⟨_, rfl, _, _, _, _, true, rfl, ClsV.ty _, TyX.base (TyOf.bl b), kit_ty (by decide +kernel), _, rfl, k⟩
    · exact ⟨_, rfl, _, _, _, _, false, rfl, ClsV.ty _, ty, kit_ty ki, _, rfl, iteF k⟩
theorem scWithin : FnScope ["thing", "least", "most"] ["thing", "least", "most"] (defScope sWithin) := ⟨rfl, rfl, rfl, by decide +kernel, rfl, by decide +kernel, by decide +kernel⟩
theorem ok_within (F : FnP K "is_whole_within" sWithin f fd) (GI : FnOk P w K mg base CX0 1 f1 fd1 ["thing"] (spWhole K)) (gI : mg "is_whole" = some (.ref f1)) (kI : PySem.W.keepIn K (.ref f1) = true) (bI : Binds K fd1 ["thing"] []) : FnOk P w K mg base CX0 2 f fd ["thing", "least", "most"] (spWithin K) := by
  refine F.ok scWithin (fun vs H Q E h => ?_) (fun cdv A outer s H vs Q E hr h => ?_)
  · obtain ⟨v, lo, hi, rfl, _⟩ := h
    rfl
  · obtain ⟨v, lo, hi, rfl, h⟩ := h
    refine ⟨_, PSs.nox (pss_one (ps_ret (pe_and (pe_call GI hr rfl gI kI bI .nil pass0 (pa_cons (pv 0) pa_nil)) (pe_one (pe_chain op_le op_le (pv 1) (pv 0) (pv 2)))))), ?_⟩
    rcases h with ⟨i, rfl, k⟩ | ⟨no, k⟩
    · refine ⟨_, rfl, _, rfl, .inl ⟨i, rfl, _, rfl, iteT ?_⟩⟩
      refine ⟨_, rfl, _, rfl, _, _, rfl, rfl, _, rfl, ?_⟩
      refine ite2 (fun h => ?_) (fun h => ?_)
      · refine ⟨_, rfl, _, _, rfl, rfl, ?_⟩
        have e : decide (lo ≤ i ∧ i ≤ hi) = decide (i ≤ hi) := decide_eq_decide.mpr ⟨fun z => z.2, fun z => ⟨of_decide_eq_true h, z⟩⟩
        rw [e] at k
        exact k
      · have e : decide (lo ≤ i ∧ i ≤ hi) = false := decide_eq_false fun z => h (decide_eq_true z.1)
        rw [e] at k
        exact k
    · exact ⟨_, rfl, _, rfl, .inr ⟨no, _, rfl, iteF k⟩⟩
end
/-! ### lists of ints as data -/
theorem dp_ints {K : PySem.W.Frag} {H : Hp} : ∀ ns : List Int, DpAll K H (ns.map V.int) (ns.map PyData.int)
  | [] => .nil
  | n :: ns => .cons (.int n) (dp_ints ns)
theorem lay_ints : ∀ ns : List Int, PyData.canLayAll0 (ns.map PyData.int) = true
  | [] => rfl
  | n :: ns => by
    rw [List.map_cons, PyData.canLayAll0, lay_ints ns]
    rfl
theorem depth_ints : ∀ ns : List Int, PyData.depthAll (ns.map PyData.int) = 0
  | [] => by rw [List.map_nil, PyData.depthAll]
  | n :: ns => by
    rw [List.map_cons, PyData.depthAll, depth_ints ns, PyData.depth]
    rfl
theorem shaped_ints (ns : List Int) : SeqAt.shaped (.list (ns.map PyData.int)) = true := by
  unfold SeqAt.shaped
  rw [PyData.canLay0, lay_ints, PyData.depth, depth_ints]
  rfl
theorem eqv_ints (ns : List Int) : PyData.eqv (.list (ns.map PyData.int)) (.list (ns.map PyData.int)) = true := by
  refine SeqAt.eqv_refl _ ?_
  rw [PyData.canLay0]
  exact lay_ints ns
theorem dp_at {K : PySem.W.Frag} {H : Hp} {a : Addr} {ns : List Int} (h : H a = some (.lst (ns.map V.int))) : Dp K H (.ref a) (.list (ns.map PyData.int)) := .lst (SqL.of h) (dp_ints ns)
/-! ### need, Node.__init__, run_firing -/
abbrev FnM (K : PySem.W.Frag) (x q : Str) (st : Stmt) (f : Addr) (fd : FuncData) : Prop := FunD K x q (defArgs st) (defBody st) (defScope st) [] [] f fd
theorem Same.tup {K : PySem.W.Frag} {H H1 : Hp} {a : Addr} {xs : List V} (s : Same H H1) (h : SqT K H a xs) : SqT K H1 a xs := by
  rcases h with (h | ⟨o, h⟩) | h
  · exact .inl (.inl (s _ _ h))
  · exact .inl (.inr ⟨o, s _ _ h⟩)
  · exact .inr h
theorem Kept.at {p b : Addr} {H H1 : Hp} {o u : HO} (k : Kept p H H1) (hp : H p = some u) (hb : H b = some o) (n : o ≠ u) : H1 b = some o := k b o (fun z => n (by rw [z, hp] at hb; exact (Option.some.inj hb).symm)) hb
theorem Kept.tup {K : PySem.W.Frag} {p a : Addr} {H H1 : Hp} {xs : List V} (k : Kept p H H1) (hp : PotAt H p) (h : SqT K H a xs) : SqT K H1 a xs := by
  obtain ⟨x, y, _, _, _, hp⟩ := hp
  rcases h with (h | ⟨o, h⟩) | h
  · exact .inl (.inl (k.at hp h (fun z => by cases z)))
  · exact .inl (.inr ⟨o, k.at hp h (fun z => by cases z)⟩)
  · exact .inr h
/-- an instance of the class at C, with these fields -/
def InsAt (H : Hp) (p C : Addr) (fs : List (Str × V)) : Prop := ∃ dx, H p = some (.ins C dx fs)
theorem InsAt.keep {H H1 : Hp} {p C : Addr} {fs : List (Str × V)} (h : InsAt H p C fs) (s : Same H H1) : InsAt H1 p C fs := by
  obtain ⟨dx, h⟩ := h
  exact ⟨dx, s _ _ h⟩
theorem InsAt.kept {H H1 : Hp} {p q C : Addr} {fs : List (Str × V)} (h : InsAt H p C fs) (k : Kept q H H1) (hq : PotAt H q) : InsAt H1 p C fs := by
  obtain ⟨dx, h⟩ := h
  obtain ⟨x, y, _, _, _, hq⟩ := hq
  exact ⟨dx, k.at hq h (fun z => by cases z)⟩
def spNeed : Sp := fun vs H Q _ => ∃ v : V, vs = [.bl true, v] ∧ Q .non H
/-- what all sorts keep -/
def nodeF (tm : Addr) (l b : Int) (fs : List (Str × V)) : List (Str × V) := putF "begin_at" (.int b) (putF "late_by" (.int l) (putF "made" (.ref tm) fs))
def spNodeInit (K : PySem.W.Frag) (C : Addr) : Sp := fun vs H Q _ => ∃ (p t dx : Addr) (fs : List (Str × V)) (xs : List V) (l b : Int), vs = [.ref p, .ref t, .int l, .int b] ∧ H p = some (.ins C dx fs) ∧ SqT K H t xs ∧ (0 ≤ l ∧ l ≤ 99) ∧ (0 ≤ b ∧ b ≤ 9999) ∧
  fs.length < 900 ∧ xs.length ≤ 1000 ∧ ∀ tm, H tm = none → Q .non (upd (upd H tm (.tup (xs ++ [.int l, .int b]))) p (.ins C dx (nodeF tm l b fs)))
structure NodeC (K : PySem.W.Frag) (C : Addr) : Prop where
  cl : Cls K C
  nM : NoAttr K C "made"
  nL : NoAttr K C "late_by"
  nB : NoAttr K C "begin_at"
theorem putF_le (f : Str) (v : V) : ∀ fs : List (Str × V), (putF f v fs).length ≤ fs.length + 1
  | [] => Nat.le_refl _
  | (g, x) :: r => by
    unfold putF
    split
    · exact Nat.le_succ _
    · exact Nat.succ_le_succ (putF_le f v r)
section
variable {P : Program} {w : World} {K : PySem.W.Frag} {mg : Str → Option Value} {base : Heap} {f f1 f2 f3 f4 f5 f6 C CW CN : Addr} {fd fd1 fd2 fd3 fd4 fd5 fd6 : FuncData}
theorem scNeed : FnScope ["holds", "field"] ["holds", "field"] (defScope sNeed) := ⟨rfl, rfl, rfl, by decide +kernel, rfl, by decide +kernel, by decide +kernel⟩
theorem ok_need (F : FnP K "need" sNeed f fd) : FnOk P w K mg base CX0 1 f fd ["holds", "field"] spNeed := by
  refine F.ok scNeed (fun vs H Q E h => ?_) (fun cdv A outer s H vs Q E hr h => ?_)
  · obtain ⟨v, rfl, _⟩ := h
    rfl
  · obtain ⟨v, rfl, k⟩ := h
    refine ⟨_, PSs.nox (pss_one (ps_if (pt_not (pt_val (pv 0))) pss_never pss_nil)), ?_⟩
    exact ⟨_, rfl, _, rfl, iteF k⟩
theorem scNodeInit : FnScope ["self", "arguments", "late", "begin"] ["self", "arguments", "late", "begin"] (defScope sNodeInit) := ⟨rfl, rfl, rfl, by decide +kernel, rfl, by decide +kernel, by decide +kernel⟩
theorem ok_nodeInit (F : FnM K "__init__" "Node.__init__" sNodeInit f fd) (GN : FnOk P w K mg base CX0 1 f1 fd1 ["holds", "field"] spNeed) (gN : mg "need" = some (.ref f1)) (kN : PySem.W.keepIn K (.ref f1) = true) (bN : Binds K fd1 ["holds", "field"] [])
    (GW : FnOk P w K mg base CX0 2 f2 fd2 ["thing", "least", "most"] (spWithin K)) (gW : mg "is_whole_within" = some (.ref f2)) (kW : PySem.W.keepIn K (.ref f2) = true) (bW : Binds K fd2 ["thing", "least", "most"] [])
    (gML : ∃ t, mg "MOST_LATE" = some (.int 99 t)) (gMB : ∃ t, mg "MOST_BEGIN" = some (.int 9999 t)) (T : NodeC K C) : FnOk P w K mg base CX0 3 f fd ["self", "arguments", "late", "begin"] (spNodeInit K C) := by
  obtain ⟨tL, gL⟩ := gML
  obtain ⟨tB, gB⟩ := gMB
  refine F.ok scNodeInit (fun vs H Q E h => ?_) (fun cdv A outer s H vs Q E hr h => ?_)
  · obtain ⟨p, t, dx, fs, xs, l, b, rfl, _⟩ := h
    rfl
  · obtain ⟨p, t, dx, fs, xs, l, b, rfl, hp, ht, hl, hb, hfs, hxs, k⟩ := h
    have hr1 : Room 1 _ := hr.mono (by decide)
    refine ⟨_, PSs.nox (pss_cons (ps_expr (pe_call GN hr1 rfl gN kN bN .nil pass0 (pa_cons (pe_call GW hr rfl gW kW bW .nil pass0 (pa_cons (pv 2) (pa_cons pe_int (pa_cons (pe_glob (v := .int 99) rfl gL ⟨_, rfl⟩) pa_nil)))) (pa_cons pe_str pa_nil))))
      (pss_cons (ps_expr (pe_call GN hr1 rfl gN kN bN .nil pass0 (pa_cons (pe_call GW hr rfl gW kW bW .nil pass0 (pa_cons (pv 3) (pa_cons pe_int (pa_cons (pe_glob (v := .int 9999) rfl gB ⟨_, rfl⟩) pa_nil)))) (pa_cons pe_str pa_nil))))
      (pss_cons (ps_fld (pv 0) (pe_tup (StX.pa_star (pv 1) (pa_cons (pv 2) (pa_cons (pv 3) pa_nil)))) rfl)
      (pss_cons (ps_fld (pv 0) (pv 2) rfl) (pss_one (ps_fld (pv 0) (pv 3) rfl)))))), ?_⟩
    refine ⟨_, rfl, _, 0, 99, rfl, .inl ⟨l, rfl, ?_⟩⟩
    rw [show decide ((0 : Int) ≤ l ∧ l ≤ 99) = true from decide_eq_true hl]
    refine ⟨_, rfl, ?_⟩
    refine ⟨_, rfl, _, 0, 9999, rfl, .inl ⟨b, rfl, ?_⟩⟩
    rw [show decide ((0 : Int) ≤ b ∧ b ≤ 9999) = true from decide_eq_true hb]
    refine ⟨_, rfl, ?_⟩
    refine ⟨_, rfl, t, xs, rfl, .inl ht, _, rfl, _, rfl, ?_, fun tm htm => ?_⟩
    · rw [List.length_append]
      exact Nat.le_trans (Nat.add_le_add_right hxs _) (by show 1000 + 2 ≤ sizeLine; decide)
    have npt : p ≠ tm := ne_of_none hp htm
    have l1 := putF_le "made" (.ref tm) fs
    have l2 := putF_le "late_by" (.int l) (putF "made" (.ref tm) fs)
    refine ⟨_, rfl, p, C, dx, _, rfl, (by rw [upd_ne npt]; exact hp), T.cl, T.nM, by omega, ?_⟩
    refine ⟨_, rfl, _, rfl, p, C, dx, _, rfl, upd_same, T.cl, T.nL, by omega, ?_⟩
    refine ⟨_, rfl, _, rfl, p, C, dx, _, rfl, upd_same, T.cl, T.nB, by omega, ?_⟩
    rw [upd_upd, upd_upd]
    exact k tm htm
end
/-! ### is_truth -/
def spTruth : Sp := fun vs H Q _ => ∃ b : Bool, vs = [.bl b] ∧ Q (.bl true) H
section
variable {P : Program} {w : World} {K : PySem.W.Frag} {mg : Str → Option Value} {base : Heap} {f f1 f2 f3 f4 f5 f6 C CW CN : Addr} {fd fd1 fd2 fd3 fd4 fd5 fd6 : FuncData}
theorem scTruth : FnScope ["thing"] ["thing"] (defScope sTruth) := ⟨rfl, rfl, rfl, by decide +kernel, rfl, by decide +kernel, by decide +kernel⟩
theorem ok_truth (F : FnP K "is_truth" sTruth f fd) : FnOk P w K mg base CX0 1 f fd ["thing"] spTruth := by
  refine F.ok scTruth (fun vs H Q E h => ?_) (fun cdv A outer s H vs Q E hr h => ?_)
  · obtain ⟨b, rfl, _⟩ := h
    rfl
  · obtain ⟨b, rfl, k⟩ := h
    refine ⟨_, PSs.nox (pss_one (ps_ret (pe_or (pe_cmpR op_isBl (pv 0) pe_bl (nomark _)) (pe_one (pe_cmpR op_isBl (pv 0) pe_bl (nomark _)))))), ?_⟩
    cases b with
    | true => exact ⟨_, rfl, true, true, rfl, rfl, true, rfl, iteT k⟩
    | false => exact ⟨_, rfl, false, true, rfl, rfl, false, rfl, iteF ⟨_, rfl, false, false, rfl, rfl, k⟩⟩
end
theorem nodeF_be (tm : Addr) (l b : Int) (fs : List (Str × V)) : (nodeF tm l b fs).lookup ("begin_at" : Str) = some (.int b) := by
  unfold nodeF
  rw [lookup_putF, if_pos rfl]
theorem nodeF_no {tm : Addr} {l b : Int} {fs : List (Str × V)} {m : Str} (h1 : m ≠ "begin_at") (h2 : m ≠ "late_by") (h3 : m ≠ "made") : (nodeF tm l b fs).lookup m = fs.lookup m := by
  unfold nodeF
  rw [lookup_putF, if_neg h1, lookup_putF, if_neg h2, lookup_putF, if_neg h3]
theorem nodeF_le (tm : Addr) (l b : Int) (fs : List (Str × V)) : (nodeF tm l b fs).length ≤ fs.length + 3 := by
  unfold nodeF
  have l1 := putF_le "made" (.ref tm) fs
  have l2 := putF_le "late_by" (.int l) (putF "made" (.ref tm) fs)
  have l3 := putF_le "begin_at" (.int b) (putF "late_by" (.int l) (putF "made" (.ref tm) fs))
  omega
/-! ### the fields of a node -/
def Num (n : Int) : Prop := -(10 ^ 56) < n ∧ n < 10 ^ 56
theorem Num.lt {n : Int} (h : Num n) : n.natAbs < 2 ^ 200 := by
  unfold Num at h
  omega
theorem Num.mul {x y : Int} (h : Num x) (h' : Num y) : CMulW x y := wide_mul h.lt h'.lt (by decide) (by decide) (by decide)
structure PlV (fs : List (Str × V)) (own : List (Str × V)) (b : Int) : Prop where
  be : fs.lookup ("begin_at" : Str) = some (.int b)
  fld : ∀ (m : Str) (x : V), own.lookup m = some x → fs.lookup m = some x
  no : ∀ m : Str, own.lookup m = none → m ≠ "begin_at" → m ≠ "late_by" → m ≠ "made" → fs.lookup m = none
theorem plV_mk {tm : Addr} {l b : Int} {fs own : List (Str × V)} (h : ∀ m : Str, fs.lookup m = own.lookup m) (n1 : own.lookup ("begin_at" : Str) = none) (n2 : own.lookup ("late_by" : Str) = none) (n3 : own.lookup ("made" : Str) = none) : PlV (nodeF tm l b fs) own b := by
  refine ⟨nodeF_be _ _ _ _, fun m x e => ?_, fun m e h3 h4 h5 => ?_⟩
  · rw [nodeF_no (fun z => by rw [z, n1] at e; cases e) (fun z => by rw [z, n2] at e; cases e) (fun z => by rw [z, n3] at e; cases e), h]
    exact e
  · rw [nodeF_no h3 h4 h5, h]
    exact e
theorem PlV.put {fs own : List (Str × V)} {b : Int} (h : PlV fs own b) (m : Str) (x : V) (n : m ≠ "begin_at") : PlV (putF m x fs) ((m, x) :: own) b := by
  refine ⟨?_, fun m' x' e => ?_, fun m' e h3 h4 h5 => ?_⟩
  · rw [lookup_putF, if_neg (Ne.symm n)]
    exact h.be
  · rw [lookup_putF]
    rw [List.lookup_cons] at e
    by_cases z : m' = m
    · rw [if_pos z]
      rw [z, beq_self_eq_true] at e
      exact e
    · rw [if_neg z]
      rw [beq_false_of_ne z] at e
      exact h.fld m' x' e
  · rw [lookup_putF]
    rw [List.lookup_cons] at e
    by_cases z : m' = m
    · rw [z, beq_self_eq_true] at e
      cases e
    · rw [if_neg z]
      rw [beq_false_of_ne z] at e
      exact h.no m' e h3 h4 h5
theorem made_same {C x dx : Addr} {H H' : Hp} (nx : H x = none) (nd : H dx = none) (ne : dx ≠ x) (k : Kept x (upd (upd H dx (.own x)) x (.ins C dx [])) H') : Same H H' :=
  Same.kept (Same.new (Same.new (Same.refl H) nd) (by rw [upd_ne ne.symm]; exact nx)) nx k
theorem Same.past {H0 H : Hp} {q : Addr} {o : HO} (k : Same H0 H) (h : H0 q = none) : Same H0 (L2.upd H q o) := fun b u e => by
  rw [upd_ne (ne_of_none e h)]
  exact k b u e
theorem Kept.past {p q : Addr} {H H1 : Hp} {o : HO} (k : Kept p H H1) (h : H q = none) : Kept p H (L2.upd H1 q o) := fun b u n e => by
  rw [upd_ne (ne_of_none e h)]
  exact k b u n e
/-! ### are_wholes, is_list_of_wholes -/
def spWholes (K : PySem.W.Frag) : Sp := fun vs H Q _ => ∃ (l : Addr) (ns : List Int), vs = [.ref l] ∧ SqL K H l (ns.map V.int) ∧ ns.length ≤ 1000 ∧ ∀ H', Same H H' → Q (.bl true) H'
def spListOf (K : PySem.W.Frag) : Sp := fun vs H Q _ => ∃ (l : Addr) (ns : List Int) (lo hi : Int), vs = [.ref l, .int lo, .int hi] ∧ H l = some (.lst (ns.map V.int)) ∧ ns.length ≤ 1000 ∧ lo ≤ (ns.length : Int) ∧ (ns.length : Int) ≤ hi ∧ ∀ H', Same H H' → Q (.bl true) H'
theorem all_true (n : Nat) : (List.replicate n true).all id = true := by
  rw [List.all_eq_true]
  intro b hb
  exact (List.mem_replicate.mp hb).2
section
variable {P : Program} {w : World} {K : PySem.W.Frag} {mg : Str → Option Value} {base : Heap} {f f1 f2 f3 f4 f5 f6 C CW CN : Addr} {fd fd1 fd2 fd3 fd4 fd5 fd6 : FuncData}
theorem scWholes : FnScope ["things", "thing"] ["things"] (defScope sWholes) := ⟨rfl, rfl, rfl, by decide +kernel, rfl, by decide +kernel, by decide +kernel⟩
theorem ok_wholes (F : FnP K "are_wholes" sWholes f fd) (GI : FnOk P w K mg base CX0 1 f1 fd1 ["thing"] (spWhole K)) (gI : mg "is_whole" = some (.ref f1)) (kI : PySem.W.keepIn K (.ref f1) = true) (bI : Binds K fd1 ["thing"] []) (gAll : mg "all" = none) :
    FnOk P w K mg base CX0 2 f fd ["things"] (spWholes K) := by
  refine F.ok scWholes (fun vs H Q E h => ?_) (fun cdv A outer s H vs Q E hr h => ?_)
  · obtain ⟨l, ns, rfl, _⟩ := h
    rfl
  · obtain ⟨l, ns, rfl, hl, few, k⟩ := h
    refine ⟨_, PSs.nox (pss_one (ps_ret (pe_callB (cr_all rfl) (by rfl) gAll (by decide +kernel) (pa_cons (pe_lc (own := [("thing", 1)]) (g := gName 1) (tt := tYes) rfl scWholes.nd (pi_list (pv 0)) (blkOk_by (N := ["things", "thing"]) (sc := defScope sWholes) (by decide +kernel))
      (fun _ _ _ _ _ => pg_name (i := 1) scWholes.nd rfl (Or.inl rfl)) (fun _ _ _ _ _ => pts_nil) (fun _ _ _ _ _ => pe_call GI hr rfl gI kI bI .nil pass0 (pa_cons (pv 1) pa_nil))) pa_nil)))), ?_⟩
    refine ⟨_, rfl, l, rfl, ⟨_, hl⟩, fun D hD => lc_list (K := K) (a := l) (xs := ns.map V.int) (fun i H' => H' = upd H D (.lst ((List.replicate i true).map V.bl))) rfl (fun i H' _ e => by rw [e]; exact Same.seq (Same.new (Same.refl _) hD) hl) (fun i v H' hv e => ?_) (fun H' e => ?_)⟩
    · subst e
      obtain ⟨u, rfl⟩ : ∃ u, v = V.int u := by
        rw [List.getElem?_map] at hv
        obtain ⟨u, _, e2⟩ := Option.map_eq_some_iff.mp hv
        exact ⟨u, e2.symm⟩
      have hi : i < ns.length := by
        have q := (List.getElem?_eq_some_iff.mp hv).1
        rw [List.length_map] at q
        exact q
      refine ⟨rfl, ?_⟩
      unfold tYes
      refine iteT ?_
      refine ⟨_, rfl, _, rfl, .inl ⟨u, rfl, _, upd_same, ?_, ?_⟩⟩
      · rw [List.length_map, List.length_replicate]
        exact Nat.lt_of_lt_of_le (show i < 1001 by omega) (by decide)
      · rw [upd_upd, List.replicate_succ', List.map_append]
        rfl
    · subst e
      refine ⟨D, _, rfl, SqL.of upd_same, ?_⟩
      rw [all_true]
      exact k _ (Same.new (Same.refl _) hD)
theorem scListOf : FnScope ["thing", "least", "most"] ["thing", "least", "most"] (defScope sListOf) := ⟨rfl, rfl, rfl, by decide +kernel, rfl, by decide +kernel, by decide +kernel⟩
theorem ok_listOf (F : FnP K "is_list_of_wholes" sListOf f fd) (GA : FnOk P w K mg base CX0 2 f1 fd1 ["things"] (spWholes K)) (gA : mg "are_wholes" = some (.ref f1)) (kA : PySem.W.keepIn K (.ref f1) = true) (bA : Binds K fd1 ["things"] [])
    (gIs : mg "isinstance" = none) (gList : mg "list" = none) (gLen : mg "len" = none) : FnOk P w K mg base CX0 3 f fd ["thing", "least", "most"] (spListOf K) := by
  refine F.ok scListOf (fun vs H Q E h => ?_) (fun cdv A outer s H vs Q E hr h => ?_)
  · obtain ⟨l, ns, lo, hi, rfl, _⟩ := h
    rfl
  · obtain ⟨l, ns, lo, hi, rfl, hl, few, h1, h2, k⟩ := h
    refine ⟨_, PSs.nox (pss_one (ps_ret (pe_and (pe_callB call_isi (by rfl) gIs boot_isinstance (pa_cons (pv 0) (pa_cons (pe_bltn (v := .ty "list") rfl gList PyProof.Rows.boot_list rfl) pa_nil)))
      (pe_and (pe_chain op_le op_le (pv 1) (pe_callB call_len_seq (by rfl) gLen PySem.boot_len (pa_cons (pv 0) pa_nil)) (pv 2)) (pe_one (pe_call GA hr rfl gA kA bA .nil pass0 (pa_cons (pv 0) pa_nil))))))), ?_⟩
    refine ⟨_, rfl, _, _, _, _, true, rfl, ClsV.ty _, TyX.base (TyOf.lst hl), kit_ty (by decide +kernel), _, rfl, iteT ?_⟩
    refine ⟨_, rfl, _, rfl, l, _, rfl, .inl (SqL.of hl), _, _, rfl, rfl, _, rfl, ?_⟩
    rw [List.length_map]
    refine ite2 (fun _ => ?_) (fun z => absurd (decide_eq_true h1) z)
    refine ⟨_, rfl, _, _, rfl, rfl, ?_⟩
    refine ⟨decide ((ns.length : Int) ≤ hi), rfl, ?_⟩
    rw [decide_eq_true h2]
    refine iteT ?_
    exact ⟨_, rfl, l, ns, rfl, SqL.of hl, few, k⟩
end
/-! ### lists of ints shown -/
theorem Num.log {n : Int} (h : Num n) : n.natAbs.log2 < 1920 := log2_of (b := 200) h.lt (by decide) (by decide)
theorem show_ints : ∀ cs : List Int, (∀ c ∈ cs, c.natAbs.log2 < 1920) → PyData.showableAll (cs.map PyData.int) = true
  | [], _ => by rw [List.map_nil, PyData.showableAll]
  | c :: r, h => by
    rw [List.map_cons, PyData.showableAll, show_ints r fun z hz => h z (List.mem_cons_of_mem _ hz), PyData.showable, decide_eq_true (h c List.mem_cons_self)]
    rfl
theorem intsD_show {ns : List Int} (h : ∀ n ∈ ns, n.natAbs.log2 < 1920) : (PyData.list (ns.map PyData.int)).showable = true := by
  rw [PyData.showable]
  exact show_ints ns h
theorem intsD_len {ns : List Int} (h : ∀ n ∈ ns, n.natAbs.log2 < 1920) (l : ns.length ≤ 1000) : (PyData.list (ns.map PyData.int)).shown.length ≤ sizeLine := by
  refine Nat.le_trans (shown_list (B := 1921) fun d hd => ?_) ?_
  · obtain ⟨n, hn, rfl⟩ := List.mem_map.mp hd
    exact shown_num (h n hn)
  · rw [List.length_map]
    exact Nat.le_trans (show (1921 + 2) * ns.length + 3 ≤ 1923 * 1000 + 3 by omega) (by decide)
/-- a list of one list of ints -/
theorem row1_shaped (xs : List Int) : SeqAt.shaped (.list [.list (xs.map PyData.int)]) = true := by
  unfold SeqAt.shaped
  rw [PyData.canLay0, PyData.canLayAll0, PyData.canLayAll0, PyData.canLay0, lay_ints, PyData.depth, PyData.depthAll, PyData.depthAll, PyData.depth, depth_ints]
  rfl
theorem row1_eqv (xs : List Int) : PyData.eqv (.list [.list (xs.map PyData.int)]) (.list [.list (xs.map PyData.int)]) = true := by
  refine SeqAt.eqv_refl _ ?_
  rw [PyData.canLay0, PyData.canLayAll0, PyData.canLayAll0, PyData.canLay0, lay_ints]
  rfl
theorem row1_dp {K : PySem.W.Frag} {H : Hp} {r r0 : Addr} {xs : List Int} (h : H r = some (.lst [.ref r0])) (h0 : H r0 = some (.lst (xs.map V.int))) : Dp K H (.ref r) (.list [.list (xs.map PyData.int)]) := .lst (SqL.of h) (.cons (dp_at h0) .nil)
end Sw
namespace Sw
open PySem PySem.Spec PyProof.Rows L2
/-! ### the head: facts by names -/
/-- as hookD, with one test more of the written part -/
def obsX (fa : List He.Fa) (fn : List He.DefD) (ex : PySem.W.Frag → Bool) (K : PySem.W.Frag) : Bool × He.AlD := (ex K, He.obsD fa fn K)
def obsXG (n : Nat) (fa : List He.Fa) (fn : List He.DefD) (ex : PySem.W.Frag → Bool) (g : Addr → Option Obj) : Bool × He.AlD := obsX fa fn ex (He.frG g (cStatics :: He.asD g n))
def hookX (n : Nat) (fa : List He.Fa) (fn : List He.DefD) (ex : PySem.W.Frag → Bool) : PySem.W.Hook where
  α := Bool × He.AlD
  obs := fun s => obsXG n fa fn ex s.heap.get?
  val := fun _ => (true, He.valD fn)
  says := fun _ h => ∃ K : PySem.W.Frag, K.In h ∧ ex K = true ∧ He.SaysD fa fn K
  of := fun _ _ e => ⟨_, He.frG_in, congrArg (fun z : Bool × He.AlD => z.1) e, congrArg (fun z : Bool × He.AlD => z.2) e⟩
  keeps := fun _ _ _ ⟨K, hK, c⟩ k => ⟨K, PySem.W.Frag.In.keeps hK k, c⟩
theorem obsXG_eq {n : Nat} {fa : List He.Fa} {fn : List He.DefD} {ex : PySem.W.Frag → Bool} {g : Addr → Option Obj} {s : Shared} (h : ∀ a, g a = s.heap.get? a) : obsXG n fa fn ex g = (hookX n fa fn ex).obs s := by
  have e : g = s.heap.get? := funext h
  rw [e] <;> rfl
def kitF (K : PySem.W.Frag) (t u : Value) (b : Bool) : Bool := decide (PySem.W.kitOne K t u = some b)
def dfn (x : Str) (st : Stmt) : He.DefD := ⟨(x, none), x, x, defArgs st, defBody st, defScope st, [], []⟩
/-- the same over a list of places that is written out -/
def obsXL (as : List Addr) (fa : List He.Fa) (fn : List He.DefD) (ex : PySem.W.Frag → Bool) (g : Addr → Option Obj) : Bool × He.AlD := obsX fa fn ex (He.frG g as)
def hookXL (as : List Addr) (fa : List He.Fa) (fn : List He.DefD) (ex : PySem.W.Frag → Bool) : PySem.W.Hook where
  α := Bool × He.AlD
  obs := fun s => obsXL as fa fn ex s.heap.get?
  val := fun _ => (true, He.valD fn)
  says := fun _ h => ∃ K : PySem.W.Frag, K.In h ∧ ex K = true ∧ He.SaysD fa fn K
  of := fun _ _ e => ⟨_, He.frG_in, congrArg (fun z : Bool × He.AlD => z.1) e, congrArg (fun z : Bool × He.AlD => z.2) e⟩
  keeps := fun _ _ _ ⟨K, hK, c⟩ k => ⟨K, PySem.W.Frag.In.keeps hK k, c⟩
theorem obsXL_eq {as : List Addr} {fa : List He.Fa} {fn : List He.DefD} {ex : PySem.W.Frag → Bool} {g : Addr → Option Obj} {s : Shared} (h : ∀ a, g a = s.heap.get? a) : obsXL as fa fn ex g = (hookXL as fa fn ex).obs s := by
  have e : g = s.heap.get? := funext h
  rw [e] <;> rfl
/-- the run's equation in parts -/
theorem run_parts {r : PySem.W.OpenRow} {q : Program} {as : List Addr} {fa1 fa2 : List He.Fa} {fn : List He.DefD} {ex : PySem.W.Frag → Bool} {M : Nat} {loose : List PySem.Str} {w : World}
    (h0 : HandSHeadRun.RunEq r q (hookXL as [] [] (fun _ => true)) (fun s => obsXL as [] [] (fun _ => true) (HandSHeadRun.getT s)) M loose w)
    (h1 : ∀ os : OsState, (HandSHeadRun.endF (HandSHeadRun.stepQ (HandSHeadRun.denQ HandSHeadRun.tabQ) r.prog w) M r.prog w os).map (fun s => ex (He.frG (HandSHeadRun.getT s) as)) = some true)
    (h2 : ∀ os : OsState, (HandSHeadRun.endF (HandSHeadRun.stepQ (HandSHeadRun.denQ HandSHeadRun.tabQ) r.prog w) M r.prog w os).map (fun s => fa1.all fun f => f.ok (He.frG (HandSHeadRun.getT s) as)) = some true)
    (h2' : ∀ os : OsState, (HandSHeadRun.endF (HandSHeadRun.stepQ (HandSHeadRun.denQ HandSHeadRun.tabQ) r.prog w) M r.prog w os).map (fun s => fa2.all fun f => f.ok (He.frG (HandSHeadRun.getT s) as)) = some true)
    (h3 : ∀ os : OsState, (HandSHeadRun.endF (HandSHeadRun.stepQ (HandSHeadRun.denQ HandSHeadRun.tabQ) r.prog w) M r.prog w os).map (fun s => (fn.all fun d => d.ok (He.frG (HandSHeadRun.getT s) as), fn.map fun d => He.fnW (He.frG (HandSHeadRun.getT s) as) d.at_)) = some (true, fn.map He.DefD.val)) :
    HandSHeadRun.RunEq r q (hookXL as (fa1 ++ fa2) fn ex) (fun s => obsXL as (fa1 ++ fa2) fn ex (HandSHeadRun.getT s)) M loose w := by
  intro os
  have g0 := h0 os
  have g1 := h1 os
  have g2 := h2 os
  have g2' := h2' os
  have g3 := h3 os
  clear h0 h1 h2 h2' h3
  generalize HandSHeadRun.endF (HandSHeadRun.stepQ (HandSHeadRun.denQ HandSHeadRun.tabQ) r.prog w) M r.prog w os = x at g0 g1 g2 g2' g3 ⊢
  cases x with
  | none => cases g1
  | some s =>
    have k0 := Option.some.inj g0
    have k1 := Option.some.inj g1
    have k2 := Option.some.inj g2
    have k2' := Option.some.inj g2'
    have k3 := Option.some.inj g3
    have a1 := congrArg Prod.fst k0
    have a2 := congrArg (fun z => z.2.1) k0
    have b1 := congrArg Prod.fst k3
    have b2 := congrArg Prod.snd k3
    dsimp only at a1 a2 b1 b2 k1 k2 k2'
    show some _ = some _
    congr 1
    refine Prod.ext a1 (Prod.ext a2 (Prod.ext k1 (Prod.ext ?_ b2)))
    show ((fa1 ++ fa2).all (fun f => f.ok (He.frG (HandSHeadRun.getT s) as)) && fn.all fun d => d.ok (He.frG (HandSHeadRun.getT s) as)) = true
    rw [List.all_append, k2, k2', b1]
    rfl
def baseB (K : PySem.W.Frag) (C f : Addr) (m : Str) : Bool := PySem.W.readsIn K C (.type "type") && (decide (PySem.W.specialIn K (.ref C) "__getattribute__" = some (some (.builtin "type.__getattribute__"))) &&
  ((match PySem.W.findCls K (.ref C) (.type "type") m with
    | some (.val (.ref g)) => decide (g = f)
    | _ => false) && PySem.W.keepIn K (.ref f)))
theorem baseB_ok {K : PySem.W.Frag} {C f : Addr} {m : Str} (h : baseB K C f m = true) : BaseM K C m f := by
  obtain ⟨h1, h⟩ := He.ba h
  obtain ⟨h2, h⟩ := He.ba h
  obtain ⟨h3, h4⟩ := He.ba h
  refine ⟨h1, of_decide_eq_true h2, ?_, h4⟩
  cases e : PySem.W.findCls K (.ref C) (.type "type") m with
  | none =>
    rw [e] at h3
    cases h3
  | some r =>
    rw [e] at h3
    cases r with
    | val v =>
      cases v with
      | ref g => rw [of_decide_eq_true (show decide (g = f) = true from h3)]
      | _ => cases h3
    | get _ _ _ _ => cases h3

/-- the tuple that stands as a default in Own's def -/
def ownT (K : PySem.W.Frag) : Addr := match K.lookup (He.fAd K ("Own", some "__init__")) with
  | some ⟨_, _, .func fd, _⟩ => (match fd.defaults with
    | .ref T => (match K.lookup T with
      | some ⟨_, _, .seq its _, _⟩ => (match (its[0]? : Option Value) with
        | some (.ref a) => a
        | _ => 0)
      | _ => 0)
    | _ => 0)
  | _ => 0
def eqB (K : PySem.W.Frag) (C : Addr) (m : Str) : Bool := decide (PySem.W.findIn K (.ref C) m = some (some (.ref (He.ma K C m)))) && PySem.W.isFn K (.ref (He.ma K C m))
theorem eqB_ok {K : PySem.W.Frag} {C : Addr} {m : Str} (h : eqB K C m = true) : PySem.W.findIn K (.ref C) m = some (some (.ref (He.ma K C m))) ∧ PySem.W.isFn K (.ref (He.ma K C m)) = true := by
  obtain ⟨h1, h2⟩ := He.ba h
  exact ⟨of_decide_eq_true h1, h2⟩
def csN : List Str := ["Gain", "Mix", "Times", "Choose", "Up", "Down", "Resample", "Own", "Outlet", "Inlet"]
def apB (K : PySem.W.Frag) : Bool := csN.all fun a => csN.all fun b => kitF K (.ref (He.ga K a)) (.ref (He.ga K b)) (decide (a = b)) && PySem.W.notFirst K (He.ga K a) (.ref (He.ga K b))
def ntN : List String := ["NoneType", "int", "str", "tuple", "list", "dict", "bool"]
def nwB (K : PySem.W.Frag) : Bool := ntN.all fun t => kitF K (.type t) (.ref (He.ga K "Weave")) false && (PySem.W.notFirst K (He.ga K "Weave") (.type t) && decide (PySem.W.mroIn K (He.ga K "Weave") (.type t) = some false))
def fn : List He.DefD := [dfn "is_whole" sWhole, dfn "is_whole_within" sWithin, dfn "is_truth" sTruth, dfn "are_wholes" sWholes, dfn "are_wholes_within" sAreWholesWithin, dfn "is_list_of_wholes" sListOf, dfn "need" sNeed, dfn "is_name" sIsName, dfn "is_one_of" sIsOneOf, dfn "all_reached" sAllReached, dfn "nodes_by_name" sNodesByName, dfn "check_wire" sCheckWire, dfn "wires_by_goal" sWiresByGoal, dfn "refuse_bare" sRefuseBare, dfn "wires_by_source" sWiresBySource, dfn "refuse_unfed" sRefuseUnfed, dfn "_law_pot" sPot, dfn "_law_take" sLTake, dfn "_law_name" sLName, dfn "_law_spec" sLSpec, dfn "_law_takes" sLTakes, dfn "_law_made" sLMade, dfn "_law_turned" sLTurned, dfn "_law_sources" sLSources, dfn "_law_pick" sLPick, dfn "_law_drawn" sLDrawn, dfn "_law_pairs" sLPairs, dfn "_law_exchanged" sLExchanged, dfn "_law_named" sLNamed, dfn "_law_other" sLOther, dfn "_law_right" sLRight, dfn "law" sLaw, (⟨("Node", some "__init__"), "__init__", "Node.__init__", defArgs sNodeInit, defBody sNodeInit, defScope sNodeInit, [], []⟩ : He.DefD), (⟨("Gain", some "__init__"), "__init__", "Gain.__init__", defArgs sGainInit, defBody sGainInit, defScope sGainInit, [], [("late", .int 0), ("begin", .int 0)]⟩ : He.DefD), (⟨("Gain", some "takes"), "takes", "Gain.takes", defArgs sGainTakes, defBody sGainTakes, defScope sGainTakes, [], []⟩ : He.DefD), (⟨("Gain", some "__eq__"), "__eq__", "Gain.__eq__", defArgs sGainEq, defBody sGainEq, defScope sGainEq, [], []⟩ : He.DefD), (⟨("Mix", some "__init__"), "__init__", "Mix.__init__", defArgs sMixInit, defBody sMixInit, defScope sMixInit, [], [("late", .int 0), ("begin", .int 0)]⟩ : He.DefD), (⟨("Mix", some "takes"), "takes", "Mix.takes", defArgs sMixTakes, defBody sMixTakes, defScope sMixTakes, [], []⟩ : He.DefD), (⟨("Mix", some "__eq__"), "__eq__", "Mix.__eq__", defArgs sMixEq, defBody sMixEq, defScope sMixEq, [], []⟩ : He.DefD), (⟨("Times", some "__init__"), "__init__", "Times.__init__", defArgs sTimesInit, defBody sTimesInit, defScope sTimesInit, [], [("late", .int 0), ("begin", .int 0)]⟩ : He.DefD), (⟨("Times", some "takes"), "takes", "Times.takes", defArgs sTimesTakes, defBody sTimesTakes, defScope sTimesTakes, [], []⟩ : He.DefD), (⟨("Times", some "__eq__"), "__eq__", "Times.__eq__", defArgs sTimesEq, defBody sTimesEq, defScope sTimesEq, [], []⟩ : He.DefD), (⟨("Choose", some "__init__"), "__init__", "Choose.__init__", defArgs sChooseInit, defBody sChooseInit, defScope sChooseInit, [], [("late", .int 0), ("begin", .int 0)]⟩ : He.DefD), (⟨("Choose", some "takes"), "takes", "Choose.takes", defArgs sChooseTakes, defBody sChooseTakes, defScope sChooseTakes, [], []⟩ : He.DefD), (⟨("Choose", some "__eq__"), "__eq__", "Choose.__eq__", defArgs sChooseEq, defBody sChooseEq, defScope sChooseEq, [], []⟩ : He.DefD), (⟨("Up", some "__init__"), "__init__", "Up.__init__", defArgs sUpInit, defBody sUpInit, defScope sUpInit, [.bl false], [("late", .int 0), ("begin", .int 0)]⟩ : He.DefD), (⟨("Up", some "takes"), "takes", "Up.takes", defArgs sUpTakes, defBody sUpTakes, defScope sUpTakes, [], []⟩ : He.DefD), (⟨("Up", some "__eq__"), "__eq__", "Up.__eq__", defArgs sUpEq, defBody sUpEq, defScope sUpEq, [], []⟩ : He.DefD), (⟨("Down", some "__init__"), "__init__", "Down.__init__", defArgs sDownInit, defBody sDownInit, defScope sDownInit, [], [("late", .int 0), ("begin", .int 0)]⟩ : He.DefD), (⟨("Down", some "takes"), "takes", "Down.takes", defArgs sDownTakes, defBody sDownTakes, defScope sDownTakes, [], []⟩ : He.DefD), (⟨("Down", some "__eq__"), "__eq__", "Down.__eq__", defArgs sDownEq, defBody sDownEq, defScope sDownEq, [], []⟩ : He.DefD), (⟨("Resample", some "__init__"), "__init__", "Resample.__init__", defArgs sResampleInit, defBody sResampleInit, defScope sResampleInit, [], [("late", .int 0), ("begin", .int 0)]⟩ : He.DefD), (⟨("Resample", some "takes"), "takes", "Resample.takes", defArgs sResampleTakes, defBody sResampleTakes, defScope sResampleTakes, [], []⟩ : He.DefD), (⟨("Resample", some "__eq__"), "__eq__", "Resample.__eq__", defArgs sResampleEq, defBody sResampleEq, defScope sResampleEq, [], []⟩ : He.DefD), (⟨("Own", some "__init__"), "__init__", "Own.__init__", defArgs sOwnInit, defBody sOwnInit, defScope sOwnInit, [.adr ownT, .int 1, .int 0], [("late", .int 0), ("begin", .int 0)]⟩ : He.DefD), (⟨("Own", some "takes"), "takes", "Own.takes", defArgs sOwnTakes, defBody sOwnTakes, defScope sOwnTakes, [], []⟩ : He.DefD), (⟨("Own", some "__eq__"), "__eq__", "Own.__eq__", defArgs sOwnEq, defBody sOwnEq, defScope sOwnEq, [], []⟩ : He.DefD), (⟨("Outlet", some "__init__"), "__init__", "Outlet.__init__", defArgs sOutletInit, defBody sOutletInit, defScope sOutletInit, [], []⟩ : He.DefD), (⟨("Outlet", some "takes"), "takes", "Outlet.takes", defArgs sOutletTakes, defBody sOutletTakes, defScope sOutletTakes, [], []⟩ : He.DefD), (⟨("Outlet", some "__eq__"), "__eq__", "Outlet.__eq__", defArgs sOutletEq, defBody sOutletEq, defScope sOutletEq, [], []⟩ : He.DefD), (⟨("Inlet", some "__init__"), "__init__", "Inlet.__init__", defArgs sInletInit, defBody sInletInit, defScope sInletInit, [], []⟩ : He.DefD), (⟨("Inlet", some "takes"), "takes", "Inlet.takes", defArgs sInletTakes, defBody sInletTakes, defScope sInletTakes, [], []⟩ : He.DefD), (⟨("Inlet", some "__eq__"), "__eq__", "Inlet.__eq__", defArgs sInletEq, defBody sInletEq, defScope sInletEq, [], []⟩ : He.DefD), (⟨("Weave", some "__init__"), "__init__", "Weave.__init__", defArgs sWeaveInit, defBody sWeaveInit, defScope sWeaveInit, [], []⟩ : He.DefD), (⟨("Weave", some "names"), "names", "Weave.names", defArgs sWeaveNames, defBody sWeaveNames, defScope sWeaveNames, [], []⟩ : He.DefD), (⟨("Weave", some "pairs"), "pairs", "Weave.pairs", defArgs sWeavePairs, defBody sWeavePairs, defScope sWeavePairs, [], []⟩ : He.DefD), (⟨("Weave", some "__eq__"), "__eq__", "Weave.__eq__", defArgs sWeaveEq, defBody sWeaveEq, defScope sWeaveEq, [], []⟩ : He.DefD), (⟨("Weave", some "__len__"), "__len__", "Weave.__len__", defArgs sWeaveLen, defBody sWeaveLen, defScope sWeaveLen, [], []⟩ : He.DefD)]
def fa1 : List He.Fa := [.glo "is_whole", .glo "is_whole_within", .glo "is_truth", .glo "are_wholes", .glo "are_wholes_within", .glo "is_list_of_wholes", .glo "need", .glo "is_name", .glo "is_one_of", .glo "all_reached", .glo "nodes_by_name", .glo "check_wire", .glo "wires_by_goal", .glo "refuse_bare", .glo "wires_by_source", .glo "refuse_unfed", .glo "_law_pot", .glo "_law_take", .glo "_law_name", .glo "_law_spec", .glo "_law_takes", .glo "_law_made", .glo "_law_turned", .glo "_law_sources", .glo "_law_pick", .glo "_law_drawn", .glo "_law_pairs", .glo "_law_exchanged", .glo "_law_named", .glo "_law_other", .glo "_law_right", .glo "law", .free "len", .free "max", .free "min", .free "range", .free "isinstance", .free "int", .free "bool", .free "list", .free "tuple", .free "str", .free "repr", .free "all", .free "divmod", .free "enumerate", .int "MOST_LATE" 99, .int "MOST_BEGIN" 9999, .int "MOST_MIXED" 8, .int "MOST_OWN_PLACES" 4, .int "MOST_OWN_SAMPLES" 8, .int "MOST_NODES" 24, .int "MOST_WIRES" 48, .int "MOST_DELAY" 9999, .int "MOST_TAPS" 12, .int "MOST_RATE" 8, .int "LONGEST_NAME" 8, .glo "Node", .glo "Weave", .glo "Gain", .glo "Mix", .glo "Times", .glo "Choose", .glo "Up", .glo "Down", .glo "Resample", .glo "Own", .glo "Outlet", .glo "Inlet", .glo "_law_deed", .cls "Gain", .noat "Gain" "made", .noat "Gain" "late_by", .noat "Gain" "begin_at", .noat "Gain" "by", .mkr "Gain", .meth "Gain" "takes", .cls "Mix", .noat "Mix" "made", .noat "Mix" "late_by", .noat "Mix" "begin_at", .noat "Mix" "many", .mkr "Mix", .meth "Mix" "takes", .cls "Times", .noat "Times" "made", .noat "Times" "late_by", .noat "Times" "begin_at", .mkr "Times", .meth "Times" "takes", .cls "Choose", .noat "Choose" "made", .noat "Choose" "late_by", .noat "Choose" "begin_at", .mkr "Choose", .meth "Choose" "takes", .cls "Up", .noat "Up" "made", .noat "Up" "late_by", .noat "Up" "begin_at", .noat "Up" "many", .noat "Up" "hold", .mkr "Up", .meth "Up" "takes", .cls "Down", .noat "Down" "made", .noat "Down" "late_by", .noat "Down" "begin_at", .noat "Down" "many", .mkr "Down", .meth "Down" "takes", .cls "Resample", .noat "Resample" "made", .noat "Resample" "late_by", .noat "Resample" "begin_at", .noat "Resample" "up", .noat "Resample" "down", .noat "Resample" "numbers", .mkr "Resample", .meth "Resample" "takes", .cls "Own", .noat "Own" "made", .noat "Own" "late_by", .noat "Own" "begin_at", .noat "Own" "deed", .noat "Own" "taken", .noat "Own" "given", .noat "Own" "first", .mkr "Own", .meth "Own" "takes", .cls "Outlet", .noat "Outlet" "made", .noat "Outlet" "late_by", .noat "Outlet" "begin_at", .mkr "Outlet", .meth "Outlet" "takes", .cls "Inlet", .noat "Inlet" "made", .noat "Inlet" "late_by", .noat "Inlet" "begin_at", .mkr "Inlet", .meth "Inlet" "takes", .cls "Weave", .noat "Weave" "named", .noat "Weave" "leading", .noat "Weave" "laid", .noat "Weave" "leaving", .mkr "Weave", .meth "Weave" "names", .meth "Weave" "pairs", .str "LETTERS" "abcdefghijklmnopqrstuvwxyz"]
def fa2 : List He.Fa := []
def fa : List He.Fa := fa1 ++ fa2
def ex (K : PySem.W.Frag) : Bool := insB K (He.ga K "Gain") (He.ga K "Node") && (insB K (He.ga K "Gain") (He.ga K "Gain") && (kitF K (.ref (He.ga K "Gain")) (.ref (He.ga K "Outlet")) false && (kitF K (.ref (He.ga K "Gain")) (.ref (He.ga K "Inlet")) false && (eqB K (He.ga K "Gain") "__eq__" && (insB K (He.ga K "Mix") (He.ga K "Node") && (insB K (He.ga K "Mix") (He.ga K "Mix") && (kitF K (.ref (He.ga K "Mix")) (.ref (He.ga K "Outlet")) false && (kitF K (.ref (He.ga K "Mix")) (.ref (He.ga K "Inlet")) false && (eqB K (He.ga K "Mix") "__eq__" && (insB K (He.ga K "Times") (He.ga K "Node") && (insB K (He.ga K "Times") (He.ga K "Times") && (kitF K (.ref (He.ga K "Times")) (.ref (He.ga K "Outlet")) false && (kitF K (.ref (He.ga K "Times")) (.ref (He.ga K "Inlet")) false && (eqB K (He.ga K "Times") "__eq__" && (insB K (He.ga K "Choose") (He.ga K "Node") && (insB K (He.ga K "Choose") (He.ga K "Choose") && (kitF K (.ref (He.ga K "Choose")) (.ref (He.ga K "Outlet")) false && (kitF K (.ref (He.ga K "Choose")) (.ref (He.ga K "Inlet")) false && (eqB K (He.ga K "Choose") "__eq__" && (insB K (He.ga K "Up") (He.ga K "Node") && (insB K (He.ga K "Up") (He.ga K "Up") && (kitF K (.ref (He.ga K "Up")) (.ref (He.ga K "Outlet")) false && (kitF K (.ref (He.ga K "Up")) (.ref (He.ga K "Inlet")) false && (eqB K (He.ga K "Up") "__eq__" && (insB K (He.ga K "Down") (He.ga K "Node") && (insB K (He.ga K "Down") (He.ga K "Down") && (kitF K (.ref (He.ga K "Down")) (.ref (He.ga K "Outlet")) false && (kitF K (.ref (He.ga K "Down")) (.ref (He.ga K "Inlet")) false && (eqB K (He.ga K "Down") "__eq__" && (insB K (He.ga K "Resample") (He.ga K "Node") && (insB K (He.ga K "Resample") (He.ga K "Resample") && (kitF K (.ref (He.ga K "Resample")) (.ref (He.ga K "Outlet")) false && (kitF K (.ref (He.ga K "Resample")) (.ref (He.ga K "Inlet")) false && (eqB K (He.ga K "Resample") "__eq__" && (insB K (He.ga K "Own") (He.ga K "Node") && (insB K (He.ga K "Own") (He.ga K "Own") && (kitF K (.ref (He.ga K "Own")) (.ref (He.ga K "Outlet")) false && (kitF K (.ref (He.ga K "Own")) (.ref (He.ga K "Inlet")) false && (eqB K (He.ga K "Own") "__eq__" && (insB K (He.ga K "Outlet") (He.ga K "Node") && (insB K (He.ga K "Outlet") (He.ga K "Outlet") && (kitF K (.ref (He.ga K "Outlet")) (.ref (He.ga K "Outlet")) true && (kitF K (.ref (He.ga K "Outlet")) (.ref (He.ga K "Inlet")) false && (eqB K (He.ga K "Outlet") "__eq__" && (insB K (He.ga K "Inlet") (He.ga K "Node") && (insB K (He.ga K "Inlet") (He.ga K "Inlet") && (kitF K (.ref (He.ga K "Inlet")) (.ref (He.ga K "Outlet")) false && (kitF K (.ref (He.ga K "Inlet")) (.ref (He.ga K "Inlet")) true && (eqB K (He.ga K "Inlet") "__eq__" && (eqB K (He.ga K "Weave") "__len__" && (apB K && (nwB K && (insB K (He.ga K "Weave") (He.ga K "Weave") && (eqB K (He.ga K "Weave") "__eq__" && (decide (PySem.W.findIn K (.ref (He.ga K "Weave")) "__ne__" = some (some (.builtin "object.__ne__"))) && (decide (PySem.W.mroIn K (He.ga K "Weave") (.type "object") = some true) && (baseB K (He.ga K "Node") (He.ma K (He.ga K "Node") "__init__") "__init__")))))))))))))))))))))))))))))))))))))))))))))))))))))))))
abbrev R : PySem.W.OpenRow := PySem.W.OpenLaw.row PySem.Challenge.rw_sampleweave_k28_equal_and_long
def asL : List Nat := [3, 6, 4, 21, 31, 51, 63, 82, 101, 120, 139, 158, 177, 196, 215, 224, 231, 238, 243, 248, 255, 262, 267, 274, 345, 408, 469, 573, 663, 753, 843, 935, 942, 949, 956, 961, 968, 973, 978, 1082, 1175, 1265, 1362, 1371, 1378, 1383, 1388, 1395, 1402, 1409, 1416, 1421, 1428, 1433, 1438, 1445, 1450, 1455, 1462, 1469, 0, 20, 30, 50, 62, 81, 100, 119, 138, 157, 176, 195, 214, 223, 230, 237, 242, 247, 254, 261, 266, 273, 344, 407, 468, 572, 662, 752, 842, 934, 941, 948, 955, 960, 967, 972, 977, 1081, 1174, 1264, 1361, 1370, 1377, 1382, 1387, 1394, 1401, 1408, 1415, 1420, 1427, 1432, 1437, 1444, 1449, 1454, 1461, 1468, 15, 16, 17, 18, 19, 29, 32, 48, 49, 61, 79, 80, 98, 99, 117, 118, 136, 137, 155, 156, 174, 175, 193, 194, 212, 213, 218, 219, 220, 221, 222, 225, 226, 227, 228, 229, 232, 233, 234, 235, 236, 239, 240, 241, 244, 245, 246, 249, 250, 251, 252, 253, 256, 257, 258, 259, 260, 263, 264, 265, 268, 269, 270, 271, 272, 288, 295, 302, 309, 316, 323, 330, 337, 342, 343, 346, 347, 363, 370, 377, 384, 391, 398, 405, 406, 424, 431, 438, 445, 452, 459, 466, 467, 486, 493, 500, 507, 514, 521, 528, 535, 542, 549, 556, 563, 570, 571, 590, 597, 604, 611, 618, 625, 632, 639, 646, 653, 660, 661, 680, 687, 694, 701, 708, 715, 722, 729, 736, 743, 750, 751, 770, 777, 784, 791, 798, 805, 812, 819, 826, 833, 840, 841, 862, 869, 876, 883, 890, 897, 904, 911, 918, 925, 932, 933, 938, 939, 940, 943, 944, 945, 946, 947, 950, 951, 952, 953, 954, 957, 958, 959, 962, 963, 964, 965, 966, 969, 970, 971, 974, 975, 976, 990, 997, 1004, 1011, 1018, 1025, 1032, 1039, 1046, 1053, 1058, 1065, 1072, 1079, 1080, 1083, 1084, 1102, 1109, 1116, 1123, 1130, 1137, 1144, 1151, 1158, 1165, 1172, 1173, 1192, 1199, 1206, 1213, 1220, 1227, 1234, 1241, 1248, 1255, 1262, 1263, 1282, 1289, 1296, 1303, 1310, 1317, 1324, 1331, 1338, 1345, 1352, 1359, 1360, 1365, 1366, 1367, 1368, 1369, 1372, 1373, 1374, 1375, 1376, 1379, 1380, 1381, 1384, 1385, 1386, 1389, 1390, 1391, 1392, 1393, 1396, 1397, 1398, 1399, 1400, 1403, 1404, 1405, 1406, 1407, 1410, 1411, 1412, 1413, 1414, 1417, 1418, 1419, 1422, 1423, 1424, 1425, 1426, 1429, 1430, 1431, 1434, 1435, 1436, 1439, 1440, 1441, 1442, 1443, 1446, 1447, 1448, 1451, 1452, 1453, 1456, 1457, 1458, 1459, 1460, 1463, 1464, 1465, 1466, 1467, 47, 78, 97, 116, 135, 154, 173, 192, 211, 287, 294, 301, 308, 315, 322, 329, 336, 341, 362, 369, 376, 383, 390, 397, 404, 423, 430, 437, 444, 451, 458, 465, 485, 479, 492, 499, 506, 513, 520, 527, 534, 541, 548, 555, 562, 569, 589, 583, 596, 603, 610, 617, 624, 631, 638, 645, 652, 659, 679, 673, 686, 693, 700, 707, 714, 721, 728, 735, 742, 749, 769, 763, 776, 783, 790, 797, 804, 811, 818, 825, 832, 839, 861, 854, 855, 868, 875, 882, 889, 896, 903, 910, 917, 924, 931, 989, 996, 1003, 1010, 1017, 1024, 1031, 1038, 1045, 1052, 1057, 1064, 1071, 1078, 1101, 1094, 1095, 1108, 1115, 1122, 1129, 1136, 1143, 1150, 1157, 1164, 1171, 1191, 1185, 1198, 1205, 1212, 1219, 1226, 1233, 1240, 1247, 1254, 1261, 1281, 1275, 1288, 1295, 1302, 1309, 1316, 1323, 1330, 1337, 1344, 1351, 1358, 42, 43, 44, 45, 46, 73, 74, 75, 76, 77, 92, 93, 94, 95, 96, 111, 112, 113, 114, 115, 130, 131, 132, 133, 134, 149, 150, 151, 152, 153, 168, 169, 170, 171, 172, 187, 188, 189, 190, 191, 206, 207, 208, 209, 210, 282, 283, 284, 285, 286, 289, 290, 291, 292, 293, 296, 297, 298, 299, 300, 303, 304, 305, 306, 307, 310, 311, 312, 313, 314, 317, 318, 319, 320, 321, 324, 325, 326, 327, 328, 331, 332, 333, 334, 335, 338, 339, 340, 357, 358, 359, 360, 361, 364, 365, 366, 367, 368, 371, 372, 373, 374, 375, 378, 379, 380, 381, 382, 385, 386, 387, 388, 389, 392, 393, 394, 395, 396, 399, 400, 401, 402, 403, 418, 419, 420, 421, 422, 425, 426, 427, 428, 429, 432, 433, 434, 435, 436, 439, 440, 441, 442, 443, 446, 447, 448, 449, 450, 453, 454, 455, 456, 457, 460, 461, 462, 463, 464, 480, 481, 482, 483, 484, 487, 488, 489, 490, 491, 494, 495, 496, 497, 498, 501, 502, 503, 504, 505, 508, 509, 510, 511, 512, 515, 516, 517, 518, 519, 522, 523, 524, 525, 526, 529, 530, 531, 532, 533, 536, 537, 538, 539, 540, 543, 544, 545, 546, 547, 550, 551, 552, 553, 554, 557, 558, 559, 560, 561, 564, 565, 566, 567, 568, 584, 585, 586, 587, 588, 591, 592, 593, 594, 595, 598, 599, 600, 601, 602, 605, 606, 607, 608, 609, 612, 613, 614, 615, 616, 619, 620, 621, 622, 623, 626, 627, 628, 629, 630, 633, 634, 635, 636, 637, 640, 641, 642, 643, 644, 647, 648, 649, 650, 651, 654, 655, 656, 657, 658, 674, 675, 676, 677, 678, 681, 682, 683, 684, 685, 688, 689, 690, 691, 692, 695, 696, 697, 698, 699, 702, 703, 704, 705, 706, 709, 710, 711, 712, 713, 716, 717, 718, 719, 720, 723, 724, 725, 726, 727, 730, 731, 732, 733, 734, 737, 738, 739, 740, 741, 744, 745, 746, 747, 748, 764, 765, 766, 767, 768, 771, 772, 773, 774, 775, 778, 779, 780, 781, 782, 785, 786, 787, 788, 789, 792, 793, 794, 795, 796, 799, 800, 801, 802, 803, 806, 807, 808, 809, 810, 813, 814, 815, 816, 817, 820, 821, 822, 823, 824, 827, 828, 829, 830, 831, 834, 835, 836, 837, 838, 856, 857, 858, 859, 860, 853, 863, 864, 865, 866, 867, 870, 871, 872, 873, 874, 877, 878, 879, 880, 881, 884, 885, 886, 887, 888, 891, 892, 893, 894, 895, 898, 899, 900, 901, 902, 905, 906, 907, 908, 909, 912, 913, 914, 915, 916, 919, 920, 921, 922, 923, 926, 927, 928, 929, 930, 986, 987, 988, 991, 992, 993, 994, 995, 998, 999, 1000, 1001, 1002, 1005, 1006, 1007, 1008, 1009, 1012, 1013, 1014, 1015, 1016, 1019, 1020, 1021, 1022, 1023, 1026, 1027, 1028, 1029, 1030, 1033, 1034, 1035, 1036, 1037, 1040, 1041, 1042, 1043, 1044, 1047, 1048, 1049, 1050, 1051, 1054, 1055, 1056, 1059, 1060, 1061, 1062, 1063, 1066, 1067, 1068, 1069, 1070, 1073, 1074, 1075, 1076, 1077, 1096, 1097, 1098, 1099, 1100, 1103, 1104, 1105, 1106, 1107, 1110, 1111, 1112, 1113, 1114, 1117, 1118, 1119, 1120, 1121, 1124, 1125, 1126, 1127, 1128, 1131, 1132, 1133, 1134, 1135, 1138, 1139, 1140, 1141, 1142, 1145, 1146, 1147, 1148, 1149, 1152, 1153, 1154, 1155, 1156, 1159, 1160, 1161, 1162, 1163, 1166, 1167, 1168, 1169, 1170, 1186, 1187, 1188, 1189, 1190, 1193, 1194, 1195, 1196, 1197, 1200, 1201, 1202, 1203, 1204, 1207, 1208, 1209, 1210, 1211, 1214, 1215, 1216, 1217, 1218, 1221, 1222, 1223, 1224, 1225, 1228, 1229, 1230, 1231, 1232, 1235, 1236, 1237, 1238, 1239, 1242, 1243, 1244, 1245, 1246, 1249, 1250, 1251, 1252, 1253, 1256, 1257, 1258, 1259, 1260, 1276, 1277, 1278, 1279, 1280, 1283, 1284, 1285, 1286, 1287, 1290, 1291, 1292, 1293, 1294, 1297, 1298, 1299, 1300, 1301, 1304, 1305, 1306, 1307, 1308, 1311, 1312, 1313, 1314, 1315, 1318, 1319, 1320, 1321, 1322, 1325, 1326, 1327, 1328, 1329, 1332, 1333, 1334, 1335, 1336, 1339, 1340, 1341, 1342, 1343, 1346, 1347, 1348, 1349, 1350, 1353, 1354, 1355, 1356, 1357, 1]
abbrev hk : PySem.W.Hook := hookXL (cStatics :: asL) fa fn ex
def ob (s : PySem.W.SharedT) : Bool × He.AlD := obsXL (cStatics :: asL) fa fn ex (HandSHeadRun.getT s)
theorem ob_eq (s : PySem.W.SharedT) : ob s = hk.obs s.abs := obsXL_eq (HandSHeadRun.getT_eq s)
def loose : List Str := (["_wall", "WeaveError", "NoNode", "TooMany", "NoName", "Twice", "Unknown", "NoPlace", "NoDelay", "Taken", "Bare", "Unfed", "LETTERS", "LONGEST_NAME", "is_whole", "is_whole_within"] : List Str) ++ (["is_truth", "are_wholes", "are_wholes_within", "is_list_of_wholes", "need", "is_name", "is_one_of", "MOST_LATE", "MOST_BEGIN", "MOST_MIXED", "MOST_OWN_PLACES", "MOST_OWN_SAMPLES", "Node", "Inlet", "Outlet", "Gain"] : List Str) ++ (["Mix", "Times", "Choose", "Own", "all_reached", "MOST_NODES", "MOST_WIRES", "MOST_DELAY", "nodes_by_name", "check_wire", "wires_by_goal", "refuse_bare", "wires_by_source", "refuse_unfed", "Weave", "MOST_TAPS"] : List Str) ++ (["MOST_RATE", "Up", "Down", "Resample", "_law_pot", "_law_take", "_law_name", "_law_spec", "_law_takes", "_law_deed", "_law_made", "_law_turned", "_law_sources", "_law_pick", "_law_drawn", "_law_pairs"] : List Str) ++ (["_law_exchanged", "_law_named", "_law_other", "_law_right"] : List Str)
theorem run0 (w : World) : HandSHeadRun.RunEq R (PySem.W.view R.prog [75]) (hookXL (cStatics :: asL) [] [] (fun _ => true)) (fun s => obsXL (cStatics :: asL) [] [] (fun _ => true) (HandSHeadRun.getT s)) 30000 loose w := by
  intro os
  kernel_rfl
theorem run1 (w : World) (os : OsState) : (HandSHeadRun.endF (HandSHeadRun.stepQ (HandSHeadRun.denQ HandSHeadRun.tabQ) R.prog w) 30000 R.prog w os).map (fun s => ex (He.frG (HandSHeadRun.getT s) (cStatics :: asL))) = some true := by
  kernel_rfl
theorem run2 (w : World) (os : OsState) : (HandSHeadRun.endF (HandSHeadRun.stepQ (HandSHeadRun.denQ HandSHeadRun.tabQ) R.prog w) 30000 R.prog w os).map (fun s => fa1.all fun f => f.ok (He.frG (HandSHeadRun.getT s) (cStatics :: asL))) = some true := by
  kernel_rfl
theorem run3 (w : World) (os : OsState) : (HandSHeadRun.endF (HandSHeadRun.stepQ (HandSHeadRun.denQ HandSHeadRun.tabQ) R.prog w) 30000 R.prog w os).map (fun s => fa2.all fun f => f.ok (He.frG (HandSHeadRun.getT s) (cStatics :: asL))) = some true := by
  kernel_rfl
theorem run4 (w : World) (os : OsState) : (HandSHeadRun.endF (HandSHeadRun.stepQ (HandSHeadRun.denQ HandSHeadRun.tabQ) R.prog w) 30000 R.prog w os).map (fun s => (fn.all fun d => d.ok (He.frG (HandSHeadRun.getT s) (cStatics :: asL)), fn.map fun d => He.fnW (He.frG (HandSHeadRun.getT s) (cStatics :: asL)) d.at_)) = some (true, fn.map He.DefD.val) := by
  kernel_rfl
theorem run (w : World) : HandSHeadRun.RunEq R (PySem.W.view R.prog [75]) hk ob 30000 loose w := run_parts (r := R) (fa1 := fa1) (fa2 := fa2) (run0 w) (run1 w) (run2 w) (run3 w) (run4 w)
end Sw
namespace Sw
open PySem PySem.Spec PyProof.Rows L2
/-! ### names -/
abbrev letters : Str := "abcdefghijklmnopqrstuvwxyz"
def NmOk (x : Str) : Prop := 1 ≤ x.length ∧ x.length ≤ 8 ∧ ∀ c ∈ x.cps.toList, c ∈ letters.cps.toList
theorem iteT_ {p : Bool} {a b : Prop} (h : p = true) (x : a) : if p = true then a else b := by
  rw [if_pos h]
  exact x
theorem iteF_ {p : Bool} {a b : Prop} (h : p = false) (x : b) : if p = true then a else b := by
  rw [if_neg (by rw [h]; decide)]
  exact x
def spName : Sp := fun vs H Q _ => ∃ x : Str, vs = [.str x] ∧ NmOk x ∧ ∀ H', Same H H' → Q (.bl true) H'
section
variable {P : Program} {w : World} {K : PySem.W.Frag} {mg : Str → Option Value} {base : Heap} {f f1 f2 f3 f4 f5 f6 f7 f8 f9 C CN CO CI CW : Addr} {fd fd1 fd2 fd3 fd4 fd5 fd6 fd7 fd8 fd9 : FuncData}
abbrev nIsName : List Str := ["thing", "letter"]
theorem scIsName : FnScope nIsName ["thing"] (defScope sIsName) := ⟨rfl, rfl, rfl, by decide +kernel, rfl, by decide +kernel, by decide +kernel⟩
theorem ok_isName (F : FnP K "is_name" sIsName f fd) (gLE : ∃ t, mg "LETTERS" = some (.str letters t)) (gLO : ∃ t, mg "LONGEST_NAME" = some (.int 8 t)) (gIs : mg "isinstance" = none) (gStr : mg "str" = none) (gLen : mg "len" = none) (gAll : mg "all" = none) : FnOk P w K mg base CX0 1 f fd ["thing"] spName := by
  obtain ⟨tL, gLO⟩ := gLO
  obtain ⟨tE, gLE⟩ := gLE
  refine F.ok scIsName (fun vs H Q E h => ?_) (fun cdv A outer s H vs Q E hr h => ?_)
  · obtain ⟨x, rfl, _⟩ := h
    rfl
  · obtain ⟨x, rfl, ⟨x1, x8, xl⟩, kk⟩ := h
    have nd := scIsName.nd
    refine ⟨_, PSs.nox (pss_cons (ps_if (PW.pt (pw_or (pt_not (pt_val (pe_callB call_isi (by rfl) gIs boot_isinstance (pa_cons (pv 0) (pa_cons (pe_bltn (v := .ty "str") rfl gStr PyProof.Rows.boot_str rfl) pa_nil))))) (pw_or1 (pt_not (pt_chain op_le op_le pe_int (pe_callB call_len_str (by rfl) gLen PySem.boot_len (pa_cons (pv 0) pa_nil)) (pe_glob (v := .int 8) rfl gLO ⟨_, rfl⟩)))))) (pss_one (ps_ret pe_bl)) pss_nil)
      (pss_one (ps_ret (pe_callB (cr_all rfl) (by rfl) gAll (by decide +kernel) (pa_cons (pe_lc (own := [("letter", 1)]) (g := (gName 1)) (tt := tYes) rfl nd (pi_str (pv 0)) (blkOk_by (N := nIsName) (sc := defScope sIsName) (by decide +kernel))
        (fun _ _ _ _ _ => (pg_name (i := 1) nd rfl (Or.inl rfl))) (fun _ _ _ _ _ => pts_nil) (fun _ _ _ _ _ => (pe_cmpR op_in_sign (pv 1) (pe_glob (v := .str letters) rfl gLE ⟨_, rfl⟩) rfl))) pa_nil))))), ?_⟩
    refine ⟨_, rfl, _, _, _, _, true, rfl, ClsV.ty _, TyX.base (TyOf.str x), kit_ty (by decide +kernel), _, rfl, iteF ?_⟩
    refine ⟨_, rfl, x, rfl, ?_, _, _, rfl, rfl, _, rfl, iteT_ (decide_eq_true (by omega)) ?_⟩
    · exact Nat.le_trans x8 (by decide)
    refine ⟨_, _, rfl, rfl, _, rfl, iteF_ ?_ ?_⟩
    · show (!decide _) = false
      rw [decide_eq_true (by omega)]
      rfl
    refine ⟨_, rfl, x, rfl, fun D hD => ?_⟩
    refine lc_it (walk_str (z := x)) (fun j H' => H' D = some (.lst ((List.replicate j true).map V.bl)) ∧ Same H H') ⟨upd_same, Same.past (Same.refl _) hD⟩ (fun _ _ _ _ => trivial) (fun j v H' H'' hj e y => ?_) (fun H' e => ?_)
    · obtain ⟨hd, s2⟩ := e
      obtain ⟨rfl, c, ec, rfl⟩ := y
      refine ⟨rfl, ?_⟩
      refine yes_ite ?_
      refine ⟨_, rfl, c, _, rfl, rfl, _, hd, ?_, ?_, Same.past s2 hD⟩
      · rw [List.length_map, List.length_replicate]
        exact Nat.lt_of_lt_of_le hj (Nat.le_trans x8 (by decide))
      · have cm : c ∈ x.cps.toList := by
          rw [← Array.getElem?_toList] at ec
          exact List.mem_of_getElem? ec
        rw [decide_eq_true (xl c cm), List.replicate_succ', List.map_append]
        exact upd_same
    · obtain ⟨hd, s2⟩ := e
      refine ⟨D, _, rfl, SqL.of hd, ?_⟩
      rw [all_true]
      exact kk _ s2
end
end Sw
namespace Sw
open PySem PySem.Spec PyProof.Rows L2
/-! ### sorts of nodes, as a weave sees them -/
structure Sorts (K : PySem.W.Frag) (CN CO CI : Addr) where
  α : Type
  As : List α
  cl : α → Addr
  at_ : α → Addr → List Nat → Hp → Prop
  out : α → Bool
  inl : α → Bool
  ins : ∀ A a ts H, at_ A a ts H → ∃ dx fs, H a = some (.ins (cl A) dx fs) ∧ fs.lookup ("takes" : Str) = none
  keep : ∀ A a ts H H1, Same H H1 → at_ A a ts H → at_ A a ts H1
  few : ∀ A a ts H, at_ A a ts H → ts.length ≤ 8
  dict : ∀ A a ts (H : Hp) (d : Addr) (kvs : List (Key × V)) (o : HO), H d = some (.dK kvs) → at_ A a ts H → at_ A a ts (L2.upd H d o)
  cls : ∀ A, A ∈ As → Cls K (cl A)
  isN : ∀ A, A ∈ As → InsC K (cl A) CN
  isO : ∀ A, A ∈ As → PySem.W.kitOne K (.ref (cl A)) (.ref CO) = some (out A)
  isI : ∀ A, A ∈ As → PySem.W.kitOne K (.ref (cl A)) (.ref CI) = some (inl A)
/-- what is known of a node: what it takes, whether it is an outlet, an inlet -/
structure NInf where
  ts : List Nat
  out : Bool
  inl : Bool
def NodeIn {K : PySem.W.Frag} {CN CO CI : Addr} (S : Sorts K CN CO CI) (a : Addr) (i : NInf) (H : Hp) : Prop := ∃ A, A ∈ S.As ∧ S.at_ A a i.ts H ∧ S.out A = i.out ∧ S.inl A = i.inl
theorem NodeIn.keep {K : PySem.W.Frag} {CN CO CI : Addr} {S : Sorts K CN CO CI} {a : Addr} {i : NInf} {H H1 : Hp} (h : NodeIn S a i H) (s : Same H H1) : NodeIn S a i H1 := by
  obtain ⟨A, h1, h2, h3, h4⟩ := h
  exact ⟨A, h1, S.keep A a _ _ _ s h2, h3, h4⟩
theorem NodeIn.dict {K : PySem.W.Frag} {CN CO CI : Addr} {S : Sorts K CN CO CI} {a d : Addr} {i : NInf} {H : Hp} {kvs : List (Key × V)} {o : HO} (h : NodeIn S a i H) (e : H d = some (.dK kvs)) : NodeIn S a i (L2.upd H d o) := by
  obtain ⟨A, h1, h2, h3, h4⟩ := h
  exact ⟨A, h1, S.dict A a _ _ _ _ _ e h2, h3, h4⟩
/-! ### a dict locked for a while -/
theorem unlock {H H' : Hp} {d : Addr} {u : HO} {od : Obj} (e : H d = some u) (s : Same (L2.upd H d (.frz od u)) H') : Same H (L2.upd H' d u) := fun b o h => by
  by_cases z : b = d
  · rw [z] at h ⊢
    rw [e] at h
    rw [← h]
    exact upd_same
  · rw [upd_ne z]
    exact s b o (by rw [upd_ne z]; exact h)
theorem lock_ne {H : Hp} {d b : Addr} {kvs : List (Key × V)} {x o : HO} (e : H d = some (.dK kvs)) (h : H b = some o) (n : ∀ ks, o ≠ .dK ks) : L2.upd H d x b = some o := by
  rw [upd_ne (fun z => by rw [z, e] at h; exact n kvs (Option.some.inj h).symm)]
  exact h
theorem lock_tup {K : PySem.W.Frag} {H : Hp} {d q : Addr} {kvs : List (Key × V)} {x : HO} {xs : List V} (e : H d = some (.dK kvs)) (h : SqT K H q xs) : SqT K (L2.upd H d x) q xs := by
  rcases h with (h | ⟨o, h⟩) | h
  · exact .inl (.inl (lock_ne e h (fun _ z => by cases z)))
  · exact .inl (.inr ⟨o, lock_ne e h (fun _ z => by cases z)⟩)
  · exact .inr h
/-- a dict comprehension over a walk -/
theorem dc_it {J : It} {n : Nat} {G : Hp → Prop} {Y : Nat → Hp → V → Hp → Prop} (w : Walk J n G Y) {g : TG} {tt : TT} {tk tv : TE} {vs : List Nat} {σ : L2.St} {H1 : Hp} {D : Addr} {Qd : Hp → Prop} (Pv : Nat → Hp → Prop)
    (h0 : Pv 0 (L2.upd H1 D (.dK []))) (hG : ∀ i H, i ≤ n → Pv i H → G H)
    (hs : ∀ i x H H', i < n → Pv i H → Y i H x H' → g x (wipe σ vs) H' fun σ2 H2 => wipe σ2 vs = wipe σ vs ∧ tt σ2 H2 fun b H3 =>
      (if b = true then tk σ2 H3 fun y H4 => tv σ2 H4 fun z H5 => ∃ kvs k, y = kV k ∧ H5 D = some (.dK kvs) ∧ kvs.length < sizeLine ∧ Pv (i + 1) (L2.upd H5 D (.dK (putK kvs k z))) else Pv (i + 1) H3)) (hd : ∀ H, Pv n H → Qd H) :
    ∃ W : Nat → Nat → Hp → Prop, (∃ m, W 0 m (L2.upd H1 D (.dK []))) ∧ ∀ i m H, W i m H →
      ((J.stop i H ∧ Qd H) ∨ (J.go i H ∧ ∃ Nx : Hp → Prop, (∀ H', Nx H' → ∃ m', m' < m ∧ W (i + 1) m' H') ∧ ∀ x H', J.yld i H x H' → g x (wipe σ vs) H' fun σ2 H2 => wipe σ2 vs = wipe σ vs ∧ tt σ2 H2 fun b H3 =>
        (if b = true then tk σ2 H3 fun y H4 => tv σ2 H4 fun z H5 => ∃ kvs k, y = kV k ∧ H5 D = some (.dK kvs) ∧ kvs.length < sizeLine ∧ Nx (L2.upd H5 D (.dK (putK kvs k z))) else Nx H3))) := by
  refine ⟨fun i m H => (i ≤ n ∧ m = n - i) ∧ Pv i H, ⟨n, ⟨Nat.zero_le _, by simp⟩, h0⟩, ?_⟩
  rintro i m H ⟨⟨hi, rfl⟩, p⟩
  have q := hG i H hi p
  by_cases hlt : i < n
  · exact .inr ⟨w.goes i H hlt q, Pv (i + 1), fun H' p' => ⟨n - (i + 1), by omega, ⟨hlt, rfl⟩, p'⟩, fun x H' y => hs i x H H' hlt p (w.yields i H x H' hlt q y)⟩
  · obtain rfl : i = n := by omega
    exact .inl ⟨w.stops H q, hd H p⟩
/-! ### lists side by side -/
def Al {α β : Type} (R : α → β → Prop) : List α → List β → Prop
  | [], [] => True
  | a :: as, b :: bs => R a b ∧ Al R as bs
  | _, _ => False
theorem Al.len {α β : Type} {R : α → β → Prop} : ∀ {as : List α} {bs : List β}, Al R as bs → as.length = bs.length
  | [], [], _ => rfl
  | a :: as, b :: bs, h => by rw [List.length_cons, List.length_cons, Al.len h.2]
  | [], b :: bs, h => h.elim
  | a :: as, [], h => h.elim
theorem Al.get {α β : Type} {R : α → β → Prop} : ∀ {as : List α} {bs : List β} {i : Nat} {a : α}, Al R as bs → as[i]? = some a → ∃ b, bs[i]? = some b ∧ R a b
  | [], [], i, a, _, h => by simp at h
  | c :: as, b :: bs, 0, a, h, e => by
    have : c = a := by simpa using e
    exact ⟨b, rfl, this ▸ h.1⟩
  | c :: as, b :: bs, i + 1, a, h, e => by
    obtain ⟨b', e', r⟩ := Al.get h.2 (show as[i]? = some a by simpa using e)
    exact ⟨b', by simpa using e', r⟩
  | [], b :: bs, i, a, h, _ => h.elim
  | c :: as, [], i, a, h, _ => h.elim
theorem Al.snoc {α β : Type} {R : α → β → Prop} {a : α} {b : β} (r : R a b) : ∀ {as : List α} {bs : List β}, Al R as bs → Al R (as ++ [a]) (bs ++ [b])
  | [], [], _ => ⟨r, trivial⟩
  | c :: as, d :: bs, h => ⟨h.1, Al.snoc r h.2⟩
  | [], d :: bs, h => h.elim
  | c :: as, [], h => h.elim
theorem Al.imp {α β : Type} {R R' : α → β → Prop} (f : ∀ a b, R a b → R' a b) : ∀ {as : List α} {bs : List β}, Al R as bs → Al R' as bs
  | [], [], _ => trivial
  | c :: as, d :: bs, h => ⟨f _ _ h.1, Al.imp f h.2⟩
  | [], d :: bs, h => h.elim
  | c :: as, [], h => h.elim
/-! ### what a weave is made of -/
/-- a node by its name -/
structure Nm where
  name : Str
  adr : Addr
  inf : NInf
/-- a wire -/
structure Wr where
  src : Str
  goal : Str
  place : Nat
  delay : Nat
def PairAt (K : PySem.W.Frag) (H : Hp) (p : V) (x : Nm) : Prop := ∃ q, p = .ref q ∧ SqT K H q [.str x.name, .ref x.adr]
def WireAt (K : PySem.W.Frag) (H : Hp) (p : V) (x : Wr) : Prop := ∃ q, p = .ref q ∧ SqT K H q [.str x.src, .str x.goal, .int (x.place : Int), .int (x.delay : Int)]
def PairsAt (K : PySem.W.Frag) (H : Hp) (l : Addr) (nm : List Nm) : Prop := ∃ ps, H l = some (.lst ps) ∧ Al (PairAt K H) ps nm
def WiresAt (K : PySem.W.Frag) (H : Hp) (l : Addr) (ws : List Wr) : Prop := ∃ ps, H l = some (.lst ps) ∧ Al (WireAt K H) ps ws
theorem PairsAt.keep {K : PySem.W.Frag} {H H1 : Hp} {l : Addr} {nm : List Nm} (h : PairsAt K H l nm) (s : Same H H1) : PairsAt K H1 l nm := by
  obtain ⟨ps, h1, h2⟩ := h
  exact ⟨ps, s _ _ h1, h2.imp fun p x ⟨q, e, h⟩ => ⟨q, e, Same.tup s h⟩⟩
theorem WiresAt.keep {K : PySem.W.Frag} {H H1 : Hp} {l : Addr} {nm : List Wr} (h : WiresAt K H l nm) (s : Same H H1) : WiresAt K H1 l nm := by
  obtain ⟨ps, h1, h2⟩ := h
  exact ⟨ps, s _ _ h1, h2.imp fun p x ⟨q, e, h⟩ => ⟨q, e, Same.tup s h⟩⟩
def Nodes {K : PySem.W.Frag} {CN CO CI : Addr} (S : Sorts K CN CO CI) (nm : List Nm) (H : Hp) : Prop := ∀ x ∈ nm, NodeIn S x.adr x.inf H
theorem Nodes.keep {K : PySem.W.Frag} {CN CO CI : Addr} {S : Sorts K CN CO CI} {nm : List Nm} {H H1 : Hp} (h : Nodes S nm H) (s : Same H H1) : Nodes S nm H1 := fun x hx => (h x hx).keep s
structure NmsOk (nm : List Nm) : Prop where
  few : nm.length ≤ 24
  ok : ∀ x ∈ nm, NmOk x.name
  nd : (nm.map Nm.name).Nodup
/-- the dict of the nodes by their names -/
def dNamed (nm : List Nm) : List (Key × V) := nm.map fun x => (Sum.inr x.name, .ref x.adr)
theorem valV_named : ∀ {nm : List Nm}, (nm.map Nm.name).Nodup → ∀ {x : Nm}, x ∈ nm → valV (dNamed nm) (Sum.inr x.name) = some (.ref x.adr)
  | [], _, x, h => by cases h
  | y :: r, nd, x, h => by
    unfold valV dNamed
    rw [List.map_cons, List.find?_cons]
    by_cases e : y.name = x.name
    · rw [decide_eq_true (congrArg Sum.inr e)]
      rcases List.mem_cons.mp h with rfl | h
      · rfl
      · exact absurd (show y.name ∈ r.map Nm.name from e ▸ List.mem_map.mpr ⟨x, h, rfl⟩) (List.nodup_cons.mp nd).1
    · rw [decide_eq_false (fun z => e (Sum.inr.inj z))]
      rcases List.mem_cons.mp h with rfl | h
      · exact absurd rfl e
      · exact valV_named (List.nodup_cons.mp nd).2 h
theorem valV_none {kvs : List (Key × V)} {k : Key} (h : ∀ p ∈ kvs, p.1 ≠ k) : valV kvs k = none := by
  unfold valV
  rw [List.find?_eq_none.mpr fun p hp => by simpa using h p hp]
  rfl
theorem putK_new {kvs : List (Key × V)} {k : Key} {v : V} (h : valV kvs k = none) : putK kvs k v = kvs ++ [(k, v)] := by
  unfold putK
  rw [if_neg]
  intro z
  obtain ⟨p, hp, e⟩ := List.any_eq_true.mp z
  unfold valV at h
  cases e2 : kvs.find? (fun kv => decide (kv.1 = k)) with
  | none =>
    have := List.find?_eq_none.mp e2 p hp
    exact this e
  | some q =>
    rw [e2] at h
    cases h
def spNamed {K : PySem.W.Frag} {CN CO CI : Addr} (S : Sorts K CN CO CI) : Sp := fun vs H Q _ => ∃ (l : Addr) (nm : List Nm), vs = [.ref l] ∧ PairsAt K H l nm ∧ NmsOk nm ∧ Nodes S nm H ∧ ∀ (d : Addr) (H' : Hp), Same H H' → H d = none → H' d = some (.dK (dNamed nm)) → Q (.ref d) H'
/-- a thing that is one of a dict's names -/
def spOneOf : Sp := fun vs H Q _ => ∃ (x : Str) (d : Addr) (kvs : List (Key × V)), vs = [.str x, .ref d] ∧ Rd H d (.dK kvs) ∧ Q (.bl (valV kvs (Sum.inr x)).isSome) H
section
variable {P : Program} {w : World} {K : PySem.W.Frag} {mg : Str → Option Value} {base : Heap} {f f1 f2 f3 f4 f5 f6 f7 f8 f9 C CN CO CI CW : Addr} {fd fd1 fd2 fd3 fd4 fd5 fd6 fd7 fd8 fd9 : FuncData}
abbrev nIsOneOf : List Str := ["thing", "names"]
theorem scIsOneOf : FnScope nIsOneOf ["thing", "names"] (defScope sIsOneOf) := ⟨rfl, rfl, rfl, by decide +kernel, rfl, by decide +kernel, by decide +kernel⟩
theorem ok_oneOf (F : FnP K "is_one_of" sIsOneOf f fd) (gIs : mg "isinstance" = none) (gStr : mg "str" = none) : FnOk P w K mg base CX0 1 f fd ["thing", "names"] spOneOf := by
  refine F.ok scIsOneOf (fun vs H Q E h => ?_) (fun cdv A outer s H vs Q E hr h => ?_)
  · obtain ⟨x, d, kvs, rfl, _⟩ := h
    rfl
  · obtain ⟨x, d, kvs, rfl, hd, kk⟩ := h
    have hu := hu_of hr
    refine ⟨_, PSs.nox (pss_one (ps_ret (pe_and (pe_callB call_isi (by rfl) gIs boot_isinstance (pa_cons (pv 0) (pa_cons (pe_bltn (v := .ty "str") rfl gStr PyProof.Rows.boot_str rfl) pa_nil))) (pe_one (pe_cmp (pc_din hu (pv 0) (pv 1))))))), ?_⟩
    refine ⟨_, rfl, _, _, _, _, true, rfl, ClsV.ty _, TyX.base (TyOf.str x), kit_ty (by decide +kernel), _, rfl, iteT ?_⟩
    exact ⟨_, rfl, _, rfl, d, _, rfl, .inl ⟨kvs, Sum.inr x, hd, rfl, rfl⟩, kk⟩
abbrev nNodesByName : List Str := ["nodes", "named", "name", "node"]
theorem scNodesByName : FnScope nNodesByName ["nodes"] (defScope sNodesByName) := ⟨rfl, rfl, rfl, by decide +kernel, rfl, by decide +kernel, by decide +kernel⟩
theorem ok_named (S : Sorts K CN CO CI) (F : FnP K "nodes_by_name" sNodesByName f fd) (GNm : FnOk P w K mg base CX0 1 f1 fd1 ["thing"] spName) (gNm : mg "is_name" = some (.ref f1)) (kNm : PySem.W.keepIn K (.ref f1) = true) (bNm : Binds K fd1 ["thing"] [])
    (gN : mg "Node" = some (.ref CN)) (gIs : mg "isinstance" = none) : FnOk P w K mg base CX0 2 f fd ["nodes"] (spNamed S) := by
  refine F.ok scNodesByName (fun vs H Q E h => ?_) (fun cdv A outer s H vs Q E hr h => ?_)
  · obtain ⟨l, nm, rfl, _⟩ := h
    rfl
  · obtain ⟨l, nm, rfl, ⟨ps, hl, al⟩, nok, nodes, kk⟩ := h
    have hu := hu_of hr
    have nd := scNodesByName.nd
    refine ⟨_, PSs.nox (pss_cons (ps_set (i := 1) nd rfl (Or.inl rfl) pe_dnewK)
      (pss_cons (ps_for PassesOwn.never rfl (pi_list (pv 0)) (pg_tup rfl (pgs_cons (pg_name (i := 2) nd rfl (Or.inl rfl)) (pgs_cons (pg_name (i := 3) nd rfl (Or.inl rfl)) pgs_nil)))
      (pss_cons (ps_if (pt_not (pt_val (pe_call GNm hr rfl gNm kNm bNm .nil pass0 (pa_cons (pv 2) pa_nil)))) pss_never pss_nil)
      (pss_cons (ps_if (pt_cmp (pc_din hu (pv 2) (pv 1))) pss_never pss_nil)
      (pss_cons (ps_if (pt_not (pt_val (pe_callB call_isi (by rfl) gIs boot_isinstance (pa_cons (pv 3) (pa_cons (pe_glob (v := .ref CN) rfl gN rfl) pa_nil))))) pss_never pss_nil)
      (pss_one (ps_dput hu (pv 1) (pv 2) (pv 3) rfl))))))
      (pss_one (ps_ret (pv 1))))), ?_⟩
    refine fun d hd => ?_
    refine ⟨_, rfl, l, rfl, ⟨_, SqL.of (Same.new (Same.refl _) hd _ _ hl)⟩, ?_⟩
    refine for_list (xs := ps) (fun j σ G => ∃ w2 w3 : Option V, σ = [some (.ref l), some (.ref d), w2, w3] ∧ G d = some (.dK (dNamed (nm.take j))) ∧ Same H G) ⟨_, _, rfl, upd_same, Same.past (Same.refl _) hd⟩ (fun j σ G _ e => by obtain ⟨_, _, _, _, sm⟩ := e; exact SqL.of (sm _ _ hl)) ?_ ?_
    · rintro j p σ G ep ⟨w2, w3, rfl, hG, sG⟩
      obtain ⟨x, ex, q, rfl, hq⟩ := al.get ep
      have xm : x ∈ nm := List.mem_of_getElem? ex
      refine ⟨q, _, rfl, Same.tup sG hq, rfl, _, _, rfl, _, _, rfl, rfl, ?_⟩
      refine ⟨_, rfl, x.name, rfl, nok.ok x xm, fun G1 s1 => ⟨_, rfl, iteF ?_⟩⟩
      have hG1 := s1 _ _ hG
      have no : valV (dNamed (nm.take j)) (Sum.inr x.name) = none := valV_none fun p hp z => by
        obtain ⟨y, hy, rfl⟩ := List.mem_map.mp hp
        have hy' : y.name = x.name := Sum.inr.inj z
        obtain ⟨k, ek⟩ := List.getElem?_of_mem hy
        rw [List.getElem?_take] at ek
        split at ek
        · rename_i kj
          have e1 : (nm.map Nm.name)[k]? = some x.name := by rw [List.getElem?_map, ek, ← hy']; rfl
          have e2 : (nm.map Nm.name)[j]? = some x.name := by rw [List.getElem?_map, ex]; rfl
          obtain ⟨h1, g1⟩ := List.getElem?_eq_some_iff.mp e1
          obtain ⟨h2, g2⟩ := List.getElem?_eq_some_iff.mp e2
          exact List.pairwise_iff_getElem.mp nok.nd k j h1 h2 kj (g1.trans g2.symm)
        · cases ek
      refine ⟨_, rfl, _, rfl, d, _, rfl, DGet.k (k := Sum.inr x.name) hG1, ?_⟩
      rw [no]
      refine ⟨_, rfl, iteF ?_⟩
      obtain ⟨B, hB, hat, _, _⟩ := (nodes x xm).keep (sG.trans s1)
      obtain ⟨dx, fs, hin, _⟩ := S.ins B _ _ _ hat
      refine ⟨_, rfl, _, _, _, _, true, rfl, ClsV.own _, (S.isN B hB).ty (S.cls B hB) hin, (S.isN B hB).kit, _, rfl, iteF ?_⟩
      refine ⟨_, rfl, _, rfl, _, rfl, d, _, rfl, DPut.k (k := Sum.inr x.name) hG1 ?_, ?_⟩
      · unfold dNamed
        rw [List.length_map, List.length_take]
        have := nok.few
        exact Nat.lt_of_le_of_lt (show _ ≤ 24 by omega) (by decide)
      · refine ⟨_, _, rfl, ?_, Same.past (sG.trans s1) hd⟩
        rw [putK_new no, List.take_succ, ex]
        unfold dNamed
        rw [List.map_append]
        exact upd_same
    · rintro σ G ⟨w2, w3, rfl, hG, sG⟩
      rw [al.len, List.take_length] at hG
      exact ⟨_, rfl, kk d G sG hd hG⟩
end
end Sw
namespace Sw
open PySem PySem.Spec PyProof.Rows L2
/-! ### which wire leads where -/
def numAt (ws : List Wr) (g : Str) (p : Nat) : Option Nat := ws.findIdx? fun w => decide (w.goal = g ∧ w.place = p)
def numV : Option Nat → V
  | some i => .int (i : Int)
  | none => .non
def leadL (ws : List Wr) (g : Str) (n : Nat) : List V := (List.range n).map fun p => numV (numAt ws g p)
theorem numAt_snoc {ws : List Wr} {w : Wr} {g : Str} {p : Nat} : numAt (ws ++ [w]) g p = (numAt ws g p).or (if w.goal = g ∧ w.place = p then some ws.length else none) := by
  unfold numAt
  rw [List.findIdx?_append]
  congr 1
  rw [List.findIdx?_cons]
  by_cases h : w.goal = g ∧ w.place = p
  · rw [decide_eq_true h, if_pos h]
    simp
  · rw [decide_eq_false h, if_neg h]
    simp
theorem numAt_none {ws : List Wr} {g : Str} {p : Nat} (h : ∀ w ∈ ws, ¬ (w.goal = g ∧ w.place = p)) : numAt ws g p = none := by
  unfold numAt
  rw [List.findIdx?_eq_none_iff]
  intro w hw
  exact decide_eq_false (h w hw)
theorem leadL_len (ws : List Wr) (g : Str) (n : Nat) : (leadL ws g n).length = n := by
  unfold leadL
  simp
theorem leadL_get {ws : List Wr} {g : Str} {n p : Nat} (h : p < n) : (leadL ws g n)[p]? = some (numV (numAt ws g p)) := by
  unfold leadL
  rw [List.getElem?_map, List.getElem?_range h]
  rfl
theorem leadL_nil (g : Str) (n : Nat) : leadL [] g n = List.replicate n .non := by
  unfold leadL
  rw [List.eq_replicate_iff]
  refine ⟨by simp, fun b hb => ?_⟩
  obtain ⟨p, _, rfl⟩ := List.mem_map.mp hb
  rfl
theorem leadL_other {ws : List Wr} {w : Wr} {g : Str} {n : Nat} (h : w.goal ≠ g) : leadL (ws ++ [w]) g n = leadL ws g n := by
  unfold leadL
  apply List.map_congr_left
  intro p _
  rw [numAt_snoc, if_neg (fun z => h z.1), Option.or_none]
theorem leadL_set {ws : List Wr} {w : Wr} {n : Nat} (h : w.place < n) (e : numAt ws w.goal w.place = none) : leadL (ws ++ [w]) w.goal n = (leadL ws w.goal n).set w.place (.int (ws.length : Int)) := by
  apply List.ext_getElem?
  intro p
  by_cases hp : p < n
  · rw [leadL_get hp, numAt_snoc]
    by_cases z : w.place = p
    · subst z
      rw [if_pos ⟨rfl, rfl⟩, e, List.getElem?_set_self (by rw [leadL_len]; exact h)]
      rfl
    · rw [if_neg (fun q => z q.2), Option.or_none, List.getElem?_set_ne z, leadL_get hp]
  · rw [List.getElem?_eq_none (by rw [leadL_len]; omega), List.getElem?_eq_none (by rw [List.length_set, leadL_len]; omega)]
/-- reached from an inlet -/
inductive Reach (nm : List Nm) (ws : List Wr) : Str → Prop
  | inl {x : Nm} (h : x ∈ nm) (i : x.inf.inl = true) : Reach nm ws x.name
  | step {w : Wr} (h : w ∈ ws) (r : Reach nm ws w.src) : Reach nm ws w.goal
/-- what a weave can be made of -/
structure WvOk (nm : List Nm) (ws : List Wr) : Prop where
  nms : NmsOk nm
  few : ws.length ≤ 48
  src : ∀ w ∈ ws, ∃ x ∈ nm, x.name = w.src ∧ x.inf.out = false
  goal : ∀ w ∈ ws, ∃ x ∈ nm, x.name = w.goal ∧ w.place < x.inf.ts.length
  del : ∀ w ∈ ws, w.delay ≤ 9999
  one : ∀ (i j : Nat) (w w' : Wr), ws[i]? = some w → ws[j]? = some w' → w.goal = w'.goal → w.place = w'.place → i = j
  all : ∀ x ∈ nm, ∀ p, p < x.inf.ts.length → ∃ w ∈ ws, w.goal = x.name ∧ w.place = p
  reach : ∀ x ∈ nm, Reach nm ws x.name
theorem numAt_take {nm : List Nm} {ws : List Wr} (ok : WvOk nm ws) {j : Nat} {w : Wr} (e : ws[j]? = some w) : numAt (ws.take j) w.goal w.place = none := by
  refine numAt_none fun w' hw' z => ?_
  obtain ⟨k, ek⟩ := List.getElem?_of_mem hw'
  rw [List.getElem?_take] at ek
  split at ek
  · rename_i kj
    have := ok.one k j w' w ek e z.1 z.2
    omega
  · cases ek
def spTk {K : PySem.W.Frag} {CN CO CI : Addr} (S : Sorts K CN CO CI) (A : S.α) : Sp := fun vs H Q _ => ∃ (a : Addr) (ts : List Nat), vs = [.ref a] ∧ S.at_ A a ts H ∧ ∀ t H', Same H H' → SqT K H' t (ts.map fun (n : Nat) => V.int (n : Int)) → Q (.ref t) H'
def spCheck {K : PySem.W.Frag} {CN CO CI : Addr} (S : Sorts K CN CO CI) : Sp := fun vs H Q _ => ∃ (n : Int) (p : V) (d : Addr) (nm : List Nm) (w : Wr), vs = [.int n, p, .ref d] ∧ WireAt K H p w ∧ H d = some (.dK (dNamed nm)) ∧ NmsOk nm ∧ Nodes S nm H ∧ (∃ x ∈ nm, x.name = w.src ∧ x.inf.out = false) ∧ (∃ x ∈ nm, x.name = w.goal ∧ w.place < x.inf.ts.length) ∧ w.delay ≤ 9999 ∧ ∀ H', Same H H' → Q .non H'
section
variable {P : Program} {w : World} {K : PySem.W.Frag} {mg : Str → Option Value} {base : Heap} {f f1 f2 f3 f4 f5 f6 f7 f8 f9 C CN CO CI CW : Addr} {fd fd1 fd2 fd3 fd4 fd5 fd6 fd7 fd8 fd9 : FuncData}
abbrev nCheckWire : List Str := ["number", "wire", "named", "source", "goal", "place", "delay"]
theorem scCheckWire : FnScope nCheckWire ["number", "wire", "named"] (defScope sCheckWire) := ⟨rfl, rfl, rfl, by decide +kernel, rfl, by decide +kernel, by decide +kernel⟩
theorem ok_check (S : Sorts K CN CO CI) (F : FnP K "check_wire" sCheckWire f fd) (GOn : FnOk P w K mg base CX0 1 f1 fd1 ["thing", "names"] spOneOf) (gOn : mg "is_one_of" = some (.ref f1)) (kOn : PySem.W.keepIn K (.ref f1) = true) (bOn : Binds K fd1 ["thing", "names"] [])
    (GWi : FnOk P w K mg base CX0 2 f2 fd2 ["thing", "least", "most"] (spWithin K)) (gWi : mg "is_whole_within" = some (.ref f2)) (kWi : PySem.W.keepIn K (.ref f2) = true) (bWi : Binds K fd2 ["thing", "least", "most"] [])
    (hT : ∀ A, A ∈ S.As → MethC P w K mg base 1 "takes" ["self"] (spTk S A) (S.cl A)) (gO : mg "Outlet" = some (.ref CO)) (gD : ∃ t, mg "MOST_DELAY" = some (.int 9999 t)) (gIs : mg "isinstance" = none) (gLen : mg "len" = none) : FnOk P w K mg base CX0 3 f fd ["number", "wire", "named"] (spCheck S) := by
  obtain ⟨tD, gD⟩ := gD
  refine F.ok scCheckWire (fun vs H Q E h => ?_) (fun cdv A outer s H vs Q E hr h => ?_)
  · obtain ⟨n, p, d, nm, w, rfl, _⟩ := h
    rfl
  · obtain ⟨n, p, d, nm, w, rfl, ⟨q, rfl, hq⟩, hd, nok, nodes, ⟨x, hx, ex, xo⟩, ⟨y, hy, ey, yp⟩, dl, kk⟩ := h
    have hu := hu_of hr
    have hr2 : Room 2 _ := hr
    have hr1 : Room 1 _ := hr.mono (by decide)
    have nd := scCheckWire.nd
    refine ⟨_, PSs.nox (pss_cons (ps_asg (pv 1) (pg_tup rfl (pgs_cons (pg_name (i := 3) nd rfl (Or.inl rfl)) (pgs_cons (pg_name (i := 4) nd rfl (Or.inl rfl)) (pgs_cons (pg_name (i := 5) nd rfl (Or.inl rfl)) (pgs_cons (pg_name (i := 6) nd rfl (Or.inl rfl)) pgs_nil))))))
      (pss_cons (ps_if (pt_not (pt_val (pe_call GOn hr1 rfl gOn kOn bOn .nil pass0 (pa_cons (pv 3) (pa_cons (pv 2) pa_nil))))) pss_never pss_nil)
      (pss_cons (ps_if (pt_not (pt_val (pe_call GOn hr1 rfl gOn kOn bOn .nil pass0 (pa_cons (pv 4) (pa_cons (pv 2) pa_nil))))) pss_never pss_nil)
      (pss_cons (ps_if (PW.pt (pw_or (pt_val (pe_callB call_isi (by rfl) gIs boot_isinstance (pa_cons (pe_dget hu (pv 2) (pv 3) (fun _ _ => rfl)) (pa_cons (pe_glob (v := .ref CO) rfl gO rfl) pa_nil)))) (pw_or1 (pt_not (pt_val (pe_call GWi hr2 rfl gWi kWi bWi .nil pass0 (pa_cons (pv 5) (pa_cons pe_int (pa_cons (pe_op op_sub (pe_callB call_len_seq (by rfl) gLen PySem.boot_len (pa_cons (pe_methOf0 (As := S.As) (cl := S.cl) (sp := spTk S) (pe_dget hu (pv 2) (pv 4) (fun _ _ => rfl)) hT hr1) pa_nil)) pe_int) pa_nil))))))))) pss_never pss_nil)
      (pss_one (ps_if (pt_not (pt_val (pe_call GWi hr2 rfl gWi kWi bWi .nil pass0 (pa_cons (pv 6) (pa_cons pe_int (pa_cons (pe_glob (v := .int 9999) rfl gD ⟨_, rfl⟩) pa_nil)))))) pss_never pss_nil)))))), ?_⟩
    refine ⟨_, rfl, q, _, rfl, hq, rfl, _, _, rfl, _, _, rfl, _, _, rfl, _, _, rfl, rfl, ?_⟩
    have vs1 : valV (dNamed nm) (Sum.inr w.src) = some (.ref x.adr) := ex ▸ valV_named nok.nd hx
    have vs2 : valV (dNamed nm) (Sum.inr w.goal) = some (.ref y.adr) := ey ▸ valV_named nok.nd hy
    refine ⟨_, rfl, _, rfl, w.src, d, _, rfl, .inl hd, ?_⟩
    rw [vs1]
    refine ⟨_, rfl, iteF ?_⟩
    refine ⟨_, rfl, _, rfl, w.goal, d, _, rfl, .inl hd, ?_⟩
    rw [vs2]
    refine ⟨_, rfl, iteF ?_⟩
    obtain ⟨B, hB, hat, hout, _⟩ := nodes x hx
    obtain ⟨dx, fs, hin, _⟩ := S.ins B _ _ _ hat
    obtain ⟨B2, hB2, hat2, _, _⟩ := nodes y hy
    obtain ⟨dx2, fs2, hin2, no2⟩ := S.ins B2 _ _ _ hat2
    have isO := S.isO B hB
    rw [hout, xo] at isO
    refine ⟨_, rfl, _, rfl, d, _, rfl, ?_, _, _, _, _, false, rfl, ClsV.own _, (S.isN B hB).ty (S.cls B hB) hin, isO, _, rfl, iteF ?_⟩
    · rw [← vs1]
      exact DGet.k (k := Sum.inr w.src) hd
    refine ⟨_, rfl, _, rfl, _, rfl, d, _, rfl, (by rw [← vs2]; exact DGet.k (k := Sum.inr w.goal) hd), B2, y.adr, dx2, fs2, hB2, rfl, hin2, no2, y.adr, _, rfl, hat2, fun t H1 s1 ht => ?_⟩
    refine ⟨t, _, rfl, .inr ht, _, _, rfl, rfl, _, 0, _, rfl, .inl ⟨_, rfl, ?_⟩⟩
    rw [List.length_map, decide_eq_true (by omega)]
    refine ⟨_, rfl, iteF ?_⟩
    refine ⟨_, rfl, _, 0, 9999, rfl, .inl ⟨_, rfl, ?_⟩⟩
    rw [decide_eq_true (by omega)]
    exact ⟨_, rfl, iteF (kk H1 s1)⟩
end
end Sw
namespace Sw
open PySem PySem.Spec PyProof.Rows L2
theorem Al.map {α β γ : Type} {R : α → β → Prop} {f : β → γ} : ∀ {as : List α} {bs : List β}, Al R as bs → True
  | _, _, _ => trivial
theorem Al.take {α β : Type} {R : α → β → Prop} : ∀ {as : List α} {bs : List β}, Al R as bs → ∀ n, Al R (as.take n) (bs.take n)
  | [], [], _, n => by simp [Al]
  | a :: as, b :: bs, h, 0 => trivial
  | a :: as, b :: bs, h, n + 1 => ⟨h.1, Al.take h.2 n⟩
  | [], b :: bs, h, _ => h.elim
  | a :: as, [], h, _ => h.elim
theorem Al.get' {α β : Type} {R : α → β → Prop} : ∀ {as : List α} {bs : List β} {i : Nat} {b : β}, Al R as bs → bs[i]? = some b → ∃ a, as[i]? = some a ∧ R a b
  | [], [], i, a, _, h => by simp at h
  | c :: as, b :: bs, 0, b', h, e => by
    have : b = b' := by simpa using e
    exact ⟨c, rfl, this ▸ h.1⟩
  | c :: as, b :: bs, i + 1, b', h, e => by
    obtain ⟨a', e', r⟩ := Al.get' h.2 (show bs[i]? = some b' by simpa using e)
    exact ⟨a', by simpa using e', r⟩
  | [], b :: bs, i, a, h, _ => h.elim
  | c :: as, [], i, a, h, _ => h.elim
theorem Al.of {α β : Type} {R : α → β → Prop} : ∀ {as : List α} {bs : List β}, as.length = bs.length → (∀ (i : Nat) (a : α) (b : β), as[i]? = some a → bs[i]? = some b → R a b) → Al R as bs
  | [], [], _, _ => trivial
  | a :: as, b :: bs, l, h => ⟨h 0 a b rfl rfl, Al.of (by simpa using l) fun i x y ex ey => h (i + 1) x y (by simpa using ex) (by simpa using ey)⟩
  | [], b :: bs, l, _ => by cases l
  | a :: as, [], l, _ => by cases l
theorem flat_one {α : Type} (y : α) : ∀ m : Nat, (List.replicate m [y]).flatten = List.replicate m y
  | 0 => rfl
  | m + 1 => by
    rw [List.replicate_succ, List.flatten_cons, flat_one y m]
    rfl
/-- a dict of lists by the nodes' names -/
def dLead (nm : List Nm) (las : List Addr) : List (Key × V) := List.zipWith (fun x la => (Sum.inr x.name, V.ref la)) nm las
theorem dLead_snoc {nm : List Nm} {las : List Addr} {x : Nm} {la : Addr} (h : nm.length = las.length) : dLead (nm ++ [x]) (las ++ [la]) = dLead nm las ++ [(Sum.inr x.name, .ref la)] := by
  unfold dLead
  rw [List.zipWith_append h]
  rfl
theorem valV_lead : ∀ {nm : List Nm} {las : List Addr}, (nm.map Nm.name).Nodup → ∀ {i : Nat} {x : Nm} {la : Addr}, nm[i]? = some x → las[i]? = some la → valV (dLead nm las) (Sum.inr x.name) = some (.ref la)
  | [], _, _, i, x, la, h, _ => by simp at h
  | y :: r, [], _, i, x, la, _, h => by simp at h
  | y :: r, l :: ls, nd, 0, x, la, h, h' => by
    have e1 : y = x := by simpa using h
    have e2 : l = la := by simpa using h'
    subst e1 e2
    unfold valV dLead
    simp
  | y :: r, l :: ls, nd, i + 1, x, la, h, h' => by
    have ih := valV_lead (List.nodup_cons.mp nd).2 (show r[i]? = some x by simpa using h) (show ls[i]? = some la by simpa using h')
    have ne : y.name ≠ x.name := fun z => (List.nodup_cons.mp nd).1 (z ▸ List.mem_map.mpr ⟨x, List.mem_of_getElem? (show r[i]? = some x by simpa using h), rfl⟩)
    unfold valV dLead at ih ⊢
    rw [List.zipWith_cons_cons, List.find?_cons, decide_eq_false (fun z => ne (Sum.inr.inj z))]
    exact ih
theorem dLead_len {nm : List Nm} {las : List Addr} (h : las.length = nm.length) : (dLead nm las).length = nm.length := by
  unfold dLead
  rw [List.length_zipWith, h]
  omega
theorem dLead_no {nm : List Nm} {las : List Addr} {s : Str} (h : ∀ x ∈ nm, x.name ≠ s) : valV (dLead nm las) (Sum.inr s) = none := valV_none fun p hp z => by
  unfold dLead at hp
  obtain ⟨i, ei⟩ := List.getElem?_of_mem hp
  rw [List.getElem?_zipWith] at ei
  cases ea : nm[i]? with
  | none => rw [ea] at ei; cases ei
  | some x =>
    cases eb : las[i]? with
    | none => rw [ea, eb] at ei; cases ei
    | some l =>
      rw [ea, eb] at ei
      cases ei
      exact h x (List.mem_of_getElem? ea) (Sum.inr.inj z)
theorem dNamed_get {nm : List Nm} {j : Nat} {k : Key} {v : V} (h : (dNamed nm)[j]? = some (k, v)) : ∃ x, nm[j]? = some x ∧ k = Sum.inr x.name ∧ v = .ref x.adr := by
  unfold dNamed at h
  rw [List.getElem?_map] at h
  obtain ⟨x, ex, e⟩ := Option.map_eq_some_iff.mp h
  cases e
  exact ⟨x, ex, rfl, rfl⟩
theorem name_ahead {nm : List Nm} (nd : (nm.map Nm.name).Nodup) {j : Nat} {x : Nm} (ex : nm[j]? = some x) : ∀ y ∈ nm.take j, y.name ≠ x.name := fun y hy z => by
  obtain ⟨k, ek⟩ := List.getElem?_of_mem hy
  rw [List.getElem?_take] at ek
  split at ek
  · rename_i kj
    have e1 : (nm.map Nm.name)[k]? = some x.name := by rw [List.getElem?_map, ek, ← z]; rfl
    have e2 : (nm.map Nm.name)[j]? = some x.name := by rw [List.getElem?_map, ex]; rfl
    obtain ⟨h1, g1⟩ := List.getElem?_eq_some_iff.mp e1
    obtain ⟨h2, g2⟩ := List.getElem?_eq_some_iff.mp e2
    exact List.pairwise_iff_getElem.mp nd k j h1 h2 kj (g1.trans g2.symm)
  · cases ek
/-- lists at places of their own, one for each node -/
structure Lists (H0 H : Hp) (d : Addr) (nm : List Nm) (las : List Addr) (L : Nm → List V) : Prop where
  hd : H d = some (.dK (dLead nm las))
  len : las.length = nm.length
  nd : las.Nodup
  new : ∀ la ∈ las, H0 la = none ∧ la ≠ d
  at_ : ∀ (i : Nat) (x : Nm) (la : Addr), nm[i]? = some x → las[i]? = some la → H la = some (.lst (L x))
theorem Lists.keep {H0 H H1 : Hp} {d : Addr} {nm : List Nm} {las : List Addr} {L : Nm → List V} (h : Lists H0 H d nm las L) (s : Same H H1) : Lists H0 H1 d nm las L := ⟨s _ _ h.hd, h.len, h.nd, h.new, fun i x la e1 e2 => s _ _ (h.at_ i x la e1 e2)⟩
def spLead {K : PySem.W.Frag} {CN CO CI : Addr} (S : Sorts K CN CO CI) : Sp := fun vs H Q _ => ∃ (wl d : Addr) (nm : List Nm) (ws : List Wr), vs = [.ref wl, .ref d] ∧ WiresAt K H wl ws ∧ H d = some (.dK (dNamed nm)) ∧ WvOk nm ws ∧ Nodes S nm H ∧ ∀ (dl : Addr) (las : List Addr) (H' : Hp), Same H H' → H dl = none → Lists H H' dl nm las (fun x => leadL ws x.name x.inf.ts.length) → Q (.ref dl) H'
section
variable {P : Program} {w : World} {K : PySem.W.Frag} {mg : Str → Option Value} {base : Heap} {f f1 f2 f3 f4 f5 f6 f7 f8 f9 C CN CO CI CW : Addr} {fd fd1 fd2 fd3 fd4 fd5 fd6 fd7 fd8 fd9 : FuncData}
abbrev nWiresByGoal : List Str := ["wires", "named", "leading", "number", "wire", "source", "goal", "place", "delay", "name"]
theorem scWiresByGoal : FnScope nWiresByGoal ["wires", "named"] (defScope sWiresByGoal) := ⟨rfl, rfl, rfl, by decide +kernel, rfl, by decide +kernel, by decide +kernel⟩
theorem ok_lead (S : Sorts K CN CO CI) (F : FnP K "wires_by_goal" sWiresByGoal f fd) (GCk : FnOk P w K mg base CX0 3 f1 fd1 ["number", "wire", "named"] (spCheck S)) (gCk : mg "check_wire" = some (.ref f1)) (kCk : PySem.W.keepIn K (.ref f1) = true) (bCk : Binds K fd1 ["number", "wire", "named"] [])
    (hT : ∀ A, A ∈ S.As → MethC P w K mg base 1 "takes" ["self"] (spTk S A) (S.cl A)) (gEnum : mg "enumerate" = none) (gLen : mg "len" = none) : FnOk P w K mg base CX0 4 f fd ["wires", "named"] (spLead S) := by
  refine F.ok scWiresByGoal (fun vs H Q E h => ?_) (fun cdv A outer s H vs Q E hr h => ?_)
  · obtain ⟨wl, d, nm, ws, rfl, _⟩ := h
    rfl
  · obtain ⟨wl, d, nm, ws, rfl, ⟨ps, hwl, al⟩, hd, ok, nodes, kk⟩ := h
    have hu := hu_of hr
    have hr1 : Room 1 _ := hr.mono (by decide)
    have nd := scWiresByGoal.nd
    have few := ok.nms.few
    refine ⟨_, PSs.nox (pss_cons (ps_lock (ps_setDc (i := 2) (own := [("name", 9)]) (g := (gName 9)) (tt := tYes) rfl nd rfl rfl (swd_true rfl rfl rfl rfl) (pi_keys (pv 1)) (blkOk_by (N := nWiresByGoal) (sc := defScope sWiresByGoal) (by decide +kernel))
        (fun _ _ _ _ _ => (pg_name (i := 9) nd rfl (Or.inl rfl))) (fun _ _ _ _ _ => pts_nil) (fun _ _ _ _ _ => (pv 9)) (fun _ _ _ _ _ => (pe_op op_rep (pe_lst (pa_cons pe_non pa_nil)) (pe_callB (call_len_seqK (K := K) rfl) (by rfl) gLen PySem.boot_len (pa_cons (pe_methOf0 (As := S.As) (cl := S.cl) (sp := spTk S) (pe_dget hu (pv 1) (pv 9) (fun _ _ => rfl)) hT hr1) pa_nil))))))
      (pss_cons (ps_for PassesOwn.never rfl (pi_enum rfl gEnum (pa_cons (pv 0) pa_nil)) (pg_tup rfl (pgs_cons (pg_name (i := 3) nd rfl (Or.inl rfl)) (pgs_cons (pg_name (i := 4) nd rfl (Or.inl rfl)) pgs_nil)))
      (pss_cons (ps_expr (pe_call GCk hr rfl gCk kCk bCk .nil pass0 (pa_cons (pv 3) (pa_cons (pv 4) (pa_cons (pv 1) pa_nil)))))
      (pss_cons (ps_asg (pv 4) (pg_tup rfl (pgs_cons (pg_name (i := 5) nd rfl (Or.inl rfl)) (pgs_cons (pg_name (i := 6) nd rfl (Or.inl rfl)) (pgs_cons (pg_name (i := 7) nd rfl (Or.inl rfl)) (pgs_cons (pg_name (i := 8) nd rfl (Or.inl rfl)) pgs_nil))))))
      (pss_cons (ps_if (pt_cmpR op_notN (pe_ix ix_list (pe_dget hu (pv 2) (pv 6) (fun _ _ => rfl)) (pv 7) (fun _ _ => rfl)) pe_non (nomark _)) pss_never pss_nil)
      (pss_one (ps_asg (pv 3) (pg_sub (pe_dget hu (pv 2) (pv 6) (fun _ _ => rfl)) (pv 7) set_list (by intro _; rfl))))))))
      (pss_one (ps_ret (pv 2))))), ?_⟩
    refine ⟨d, _, hd, trivial, fun od => ?_⟩
    have nodesL : ∀ x ∈ nm, NodeIn S x.adr x.inf (upd H d (.frz od (.dK (dNamed nm)))) := fun x hx => (nodes x hx).dict hd
    have hL : (upd H d (.frz od (.dK (dNamed nm)))) d = some (.frz od (.dK (dNamed nm))) := upd_same
    have freeL : ∀ {a : Addr}, (upd H d (.frz od (.dK (dNamed nm)))) a = none → H a = none := fun {a} e => by
      by_cases z : a = d
      · rw [z, hL] at e
        cases e
      · rw [upd_ne z] at e
        exact e
    generalize eHL : upd H d (.frz od (.dK (dNamed nm))) = HL at nodesL hL freeL
    refine ⟨_, rfl, d, od, rfl, .inl ⟨_, hL, fun D hD => ?_⟩⟩
    have nDd : D ≠ d := (ne_of_none hL hD).symm
    refine dc_it (walk_keys (d := d) (o := od) (kvs := dNamed nm)) (fun j H' => ∃ las, Lists HL H' D (nm.take j) las (fun x => List.replicate x.inf.ts.length .non) ∧ Same HL H') ⟨[], ⟨?_, ?_, List.nodup_nil, fun _ h => (List.not_mem_nil h).elim, fun i x la h => ?_⟩, Same.past (Same.refl _) hD⟩ (fun j H' _ e => by obtain ⟨_, _, sm⟩ := e; exact sm _ _ hL) (fun j v H' H'' hj e y => ?_) (fun H' e => ?_)
    · rw [List.take_zero]
      exact upd_same
    · simp
    · rw [List.take_zero] at h
      cases h
    · obtain ⟨las, li, sm⟩ := e
      obtain ⟨rfl, k, v', ek, rfl⟩ := y
      obtain ⟨x, ex, rfl, rfl⟩ := dNamed_get ek
      have xm : x ∈ nm := List.mem_of_getElem? ex
      refine ⟨rfl, ?_⟩
      refine yes_ite ?_
      obtain ⟨B, hB, hat, _, _⟩ := (nodesL x xm).keep sm
      obtain ⟨dx, fs, hin, no⟩ := S.ins B _ _ _ hat
      refine ⟨_, rfl, (by show 1 ≤ sizeLine; decide), fun l1 h1 => ?_⟩
      have s1 := Same.new (o := .lst [V.non]) (Same.refl H'') h1
      refine ⟨_, rfl, _, rfl, d, _, rfl, .inl ⟨_, Sum.inr x.name, .inr ⟨od, s1 _ _ (sm _ _ hL)⟩, rfl, (valV_named ok.nms.nd xm).symm⟩, B, x.adr, dx, fs, hB, rfl, s1 _ _ hin, no, x.adr, _, rfl, S.keep B _ _ _ _ s1 hat, fun t G2 s2 ht => ?_⟩
      have t8 := S.few B _ _ _ hat
      refine ⟨t, _, rfl, .inr ht, l1, _, [V.non], rfl, rfl, s2 _ _ upd_same, by rw [List.length_map]; omega, by rw [List.length_map]; omega, ?_, fun la hla => ?_⟩
      · rw [List.length_map, Int.toNat_natCast]
        exact Nat.le_trans (show 1 * x.inf.ts.length ≤ 8 by omega) (by decide)
      have s3 := Same.new (o := .lst (List.replicate (((x.inf.ts.map fun (n : Nat) => V.int (n : Int)).length : Nat) : Int).toNat [V.non]).flatten) (Same.refl G2) hla
      have s13 := s1.trans (s2.trans s3)
      have laD : la ≠ D := (ne_of_none ((s1.trans s2) _ _ li.hd) hla).symm
      have er : (List.replicate (((x.inf.ts.map fun (n : Nat) => V.int (n : Int)).length : Nat) : Int).toNat [V.non]).flatten = List.replicate x.inf.ts.length V.non := by
        rw [List.length_map, Int.toNat_natCast, flat_one]
      rw [er] at s3 s13 ⊢
      have nk : nm.take (j + 1) = nm.take j ++ [x] := by
        rw [List.take_succ, ex]
        rfl
      refine ⟨_, Sum.inr x.name, rfl, s13 _ _ li.hd, ?_, las ++ [la], ?_, Same.past (sm.trans s13) hD⟩
      · rw [dLead_len li.len, List.length_take]
        exact Nat.lt_of_le_of_lt (show _ ≤ 24 by omega) (by decide)
      have fla : HL la = none := (sm.trans (s1.trans s2)).free hla
      rw [putK_new (dLead_no (name_ahead ok.nms.nd ex))]
      refine ⟨?_, ?_, ?_, fun a ha => ?_, fun i y a ey ea => ?_⟩
      · rw [nk, dLead_snoc li.len.symm]
        exact upd_same
      · rw [nk, List.length_append, List.length_append, li.len]
        rfl
      · rw [List.nodup_append]
        refine ⟨li.nd, List.nodup_cons.mpr ⟨List.not_mem_nil, List.nodup_nil⟩, fun a ha b hb => ?_⟩
        rw [List.mem_singleton.mp hb]
        intro z
        obtain ⟨i, ei⟩ := List.getElem?_of_mem ha
        have il := (List.getElem?_eq_some_iff.mp ei).1
        rw [li.len] at il
        have := (s1.trans s2) _ _ (li.at_ i _ a (List.getElem?_eq_getElem il) ei)
        rw [z, hla] at this
        cases this
      · rcases List.mem_append.mp ha with ha | ha
        · exact li.new a ha
        · rw [List.mem_singleton.mp ha]
          exact ⟨fla, laD⟩
      · rw [nk] at ey
        by_cases z : i < las.length
        · rw [List.getElem?_append_left (by rw [← li.len]; exact z)] at ey
          rw [List.getElem?_append_left z] at ea
          rw [upd_ne (li.new a (List.mem_of_getElem? ea)).2]
          exact s13 _ _ (li.at_ i y a ey ea)
        · have il := (List.getElem?_eq_some_iff.mp ea).1
          rw [List.length_append] at il
          have e0 : i = las.length := by
            have : [la].length = 1 := rfl
            omega
          subst e0
          rw [List.getElem?_concat_length] at ea
          rw [li.len, List.getElem?_concat_length] at ey
          cases ea
          cases ey
          rw [upd_ne laD]
          exact upd_same
    · obtain ⟨las, li, sm⟩ := e
      have dn : (dNamed nm).length = nm.length := by
        unfold dNamed
        rw [List.length_map]
      rw [dn, List.take_length] at li
      refine ⟨sm _ _ hL, ?_⟩
      have u1 : Same H (upd H' d (.dK (dNamed nm))) := unlock hd (eHL ▸ sm)
      have hd1 : (upd H' d (.dK (dNamed nm))) d = some (.dK (dNamed nm)) := upd_same
      have fD : H D = none := freeL hD
      have li1 : Lists H (upd H' d (.dK (dNamed nm))) D nm las (fun x => leadL (ws.take 0) x.name x.inf.ts.length) := by
        refine ⟨by rw [upd_ne nDd]; exact li.hd, li.len, li.nd, fun a ha => ⟨freeL (li.new a ha).1, (li.new a ha).2⟩, fun i x a ex ea => ?_⟩
        rw [List.take_zero, leadL_nil, upd_ne (fun z => by
          have := (li.new a (List.mem_of_getElem? ea)).1
          rw [z, hL] at this
          cases this)]
        exact li.at_ i x a ex ea
      generalize upd H' d (.dK (dNamed nm)) = H1 at u1 hd1 li1
      clear li sm
      refine ⟨_, rfl, wl, _, rfl, SqL.of (u1 _ _ hwl), ?_⟩
      refine for_it (walk_enum (xs := ps)) (fun j σ G => ∃ w3 w4 w5 w6 w7 w8 : Option V, σ = [some (.ref wl), some (.ref d), some (.ref D), w3, w4, w5, w6, w7, w8, none] ∧ Lists H G D nm las (fun x => leadL (ws.take j) x.name x.inf.ts.length) ∧ Same H G) ⟨_, _, _, _, _, _, rfl, li1, u1⟩ (fun j σ G _ e => by obtain ⟨_, _, _, _, _, _, _, _, sm⟩ := e; exact SqL.of (sm _ _ hwl)) ?_ ?_
      · rintro j v σ G G' hj ⟨w3, w4, w5, w6, w7, w8, rfl, li, sG⟩ ⟨TT, x1, x2, rfl, hTT, rfl, e1, e2⟩
        cases e1
        have e2 : ps[j]? = some x2 := e2
        obtain ⟨wr, ew, q, rfl, hq⟩ := al.get e2
        have wm : wr ∈ ws := List.mem_of_getElem? ew
        have sT := Same.new (o := .tup [V.int ((j : Nat) : Int), V.ref q]) (Same.refl G) hTT
        have sGT := sG.trans sT
        have liT := li.keep sT
        refine ⟨TT, _, rfl, .inl (.inl upd_same), rfl, _, _, rfl, _, _, rfl, rfl, ?_⟩
        generalize upd G TT (.tup [V.int ((j : Nat) : Int), V.ref q]) = GT at sT sGT liT
        refine ⟨_, rfl, _, rfl, _, rfl, _, _, d, nm, wr, rfl, ⟨q, rfl, Same.tup sGT hq⟩, sGT _ _ hd, ok.nms, nodes.keep sGT, ok.src wr wm, ok.goal wr wm, ok.del wr wm, fun G2 s2 => ?_⟩
        have li2 := liT.keep s2
        have sG2 := sGT.trans s2
        refine ⟨_, rfl, q, _, rfl, Same.tup sG2 hq, rfl, _, _, rfl, _, _, rfl, _, _, rfl, _, _, rfl, rfl, ?_⟩
        obtain ⟨x, xm, exn, xp⟩ := ok.goal wr wm
        obtain ⟨i, ei⟩ := List.getElem?_of_mem xm
        have il : i < las.length := by
          rw [li2.len]
          exact (List.getElem?_eq_some_iff.mp ei).1
        obtain ⟨la, ela⟩ : ∃ la, las[i]? = some la := ⟨_, List.getElem?_eq_getElem il⟩
        have hla := li2.at_ i x la ei ela
        have vg : valV (dLead nm las) (Sum.inr wr.goal) = some (.ref la) := exn ▸ valV_lead ok.nms.nd ei ela
        have dg : DGet G2 D (.str wr.goal) (some (.ref la)) := by
          rw [← vg]
          exact DGet.k (k := Sum.inr wr.goal) li2.hd
        have nn : numAt (ws.take j) x.name wr.place = none := exn ▸ numAt_take ok ew
        have a0 : atI (leadL (ws.take j) x.name x.inf.ts.length) (wr.place : Int) = some .non := by
          refine atI_nat (j := wr.place) ?_
          rw [leadL_get xp, nn]
          rfl
        refine ⟨_, rfl, _, rfl, D, _, rfl, dg, _, rfl, la, _, _, .non, rfl, rfl, SqL.of hla, a0, rfl, _, rfl, iteF ?_⟩
        have exP : ixN (leadL (ws.take j) x.name x.inf.ts.length).length (wr.place : Int) = some wr.place := by
          rw [leadL_len]
          unfold ixN
          simp
          omega
        refine ⟨_, rfl, _, rfl, _, rfl, D, _, rfl, dg, _, rfl, la, _, _, wr.place, rfl, rfl, hla, exP, ?_⟩
        have lam := List.mem_of_getElem? ela
        have jl : (ws.take j).length = j := by
          rw [List.length_take]
          have := (List.getElem?_eq_some_iff.mp ew).1
          omega
        have wk : ws.take (j + 1) = ws.take j ++ [wr] := by
          rw [List.take_succ, ew]
          rfl
        refine ⟨_, _, _, _, _, _, rfl, ⟨?_, li2.len, li2.nd, li2.new, fun k y b ey eb => ?_⟩, Same.past sG2 (li2.new la lam).1⟩
        · rw [upd_ne (li2.new la lam).2.symm]
          exact li2.hd
        · rw [wk]
          by_cases z : b = la
          · have ki : k = i := by
              obtain ⟨k1, g1⟩ := List.getElem?_eq_some_iff.mp eb
              obtain ⟨k2, g2⟩ := List.getElem?_eq_some_iff.mp ela
              rcases Nat.lt_trichotomy k i with l | l | l
              · exact absurd (g1.trans (z.trans g2.symm)) (List.pairwise_iff_getElem.mp li2.nd k i k1 k2 l)
              · exact l
              · exact absurd (g2.trans (z.symm.trans g1.symm)) (List.pairwise_iff_getElem.mp li2.nd i k k2 k1 l)
            subst ki
            rw [ei] at ey
            cases ey
            rw [z, exn, leadL_set xp (numAt_take ok ew), jl, ← exn]
            exact upd_same
          · have ne : wr.goal ≠ y.name := fun q' => by
              have e3 : (nm.map Nm.name)[k]? = some y.name := by rw [List.getElem?_map, ey]; rfl
              have e4 : (nm.map Nm.name)[i]? = some y.name := by rw [List.getElem?_map, ei, ← q', ← exn]; rfl
              obtain ⟨k1, g1⟩ := List.getElem?_eq_some_iff.mp e3
              obtain ⟨k2, g2⟩ := List.getElem?_eq_some_iff.mp e4
              have : k = i := by
                rcases Nat.lt_trichotomy k i with l | l | l
                · exact absurd (g1.trans g2.symm) (List.pairwise_iff_getElem.mp ok.nms.nd k i k1 k2 l)
                · exact l
                · exact absurd (g2.trans g1.symm) (List.pairwise_iff_getElem.mp ok.nms.nd i k k2 k1 l)
              subst this
              rw [ela] at eb
              exact z (Option.some.inj eb).symm
            rw [leadL_other ne, upd_ne z]
            exact li2.at_ k y b ey eb
      · rintro σ G ⟨w3, w4, w5, w6, w7, w8, rfl, li, sG⟩
        rw [al.len, List.take_length] at li
        exact ⟨_, rfl, kk D las G sG fD li⟩
end
end Sw
namespace Sw
open PySem PySem.Spec PyProof.Rows L2
theorem numAt_some {ws : List Wr} {g : Str} {p : Nat} (h : ∃ w ∈ ws, w.goal = g ∧ w.place = p) : ∃ i, numAt ws g p = some i := by
  cases e : numAt ws g p with
  | some i => exact ⟨i, rfl⟩
  | none =>
    obtain ⟨w, hw, z⟩ := h
    unfold numAt at e
    rw [List.findIdx?_eq_none_iff] at e
    have := e w hw
    rw [decide_eq_true z] at this
    cases this
theorem dLead_get {nm : List Nm} {las : List Addr} {j : Nat} {k : Key} {v : V} (h : (dLead nm las)[j]? = some (k, v)) : ∃ x la, nm[j]? = some x ∧ las[j]? = some la ∧ k = Sum.inr x.name ∧ v = .ref la := by
  unfold dLead at h
  rw [List.getElem?_zipWith] at h
  cases ea : nm[j]? with
  | none => rw [ea] at h; cases h
  | some x =>
    cases eb : las[j]? with
    | none => rw [ea, eb] at h; cases h
    | some l =>
      rw [ea, eb] at h
      cases h
      exact ⟨x, l, rfl, rfl, rfl, rfl⟩
def spBare : Sp := fun vs H Q _ => ∃ (H0 : Hp) (dl : Addr) (nm : List Nm) (las : List Addr) (ws : List Wr), vs = [.ref dl] ∧ Lists H0 H dl nm las (fun x => leadL ws x.name x.inf.ts.length) ∧ WvOk nm ws ∧ ∀ H', Same H H' → Q .non H'
/-- the numbers of the wires ahead of j that lead from a name -/
def outN (ws : List Wr) (s : Str) : Nat → List Nat
  | 0 => []
  | j + 1 => outN ws s j ++ (if ws[j]?.map Wr.src = some s then [j] else [])
def outL (ws : List Wr) (s : Str) (j : Nat) : List V := (outN ws s j).map fun (n : Nat) => V.int (n : Int)
theorem outN_len (ws : List Wr) (s : Str) : ∀ j, (outN ws s j).length ≤ j
  | 0 => Nat.le_refl 0
  | j + 1 => by
    have := outN_len ws s j
    unfold outN
    rw [List.length_append]
    split <;> simp <;> omega
theorem outN_mem {ws : List Wr} {s : Str} : ∀ {j n : Nat}, n ∈ outN ws s j ↔ n < j ∧ ws[n]?.map Wr.src = some s
  | 0, n => by simp [outN]
  | j + 1, n => by
    unfold outN
    rw [List.mem_append, outN_mem (j := j)]
    constructor
    · rintro (⟨h1, h2⟩ | h)
      · exact ⟨by omega, h2⟩
      · split at h
        · rename_i z
          rw [List.mem_singleton.mp h]
          exact ⟨by omega, z⟩
        · cases h
    · rintro ⟨h1, h2⟩
      by_cases z : n = j
      · subst z
        right
        rw [if_pos h2]
        exact List.mem_singleton.mpr rfl
      · exact .inl ⟨by omega, h2⟩
def spLeav (K : PySem.W.Frag) : Sp := fun vs H Q _ => ∃ (wl d : Addr) (nm : List Nm) (ws : List Wr), vs = [.ref wl, .ref d] ∧ WiresAt K H wl ws ∧ H d = some (.dK (dNamed nm)) ∧ WvOk nm ws ∧ ∀ (dl : Addr) (las : List Addr) (H' : Hp), Same H H' → H dl = none → Lists H H' dl nm las (fun x => outL ws x.name ws.length) → Q (.ref dl) H'
/-- a list at one place is stored anew -/
theorem Lists.store {H0 H : Hp} {d : Addr} {nm : List Nm} {las : List Addr} {L L' : Nm → List V} (h : Lists H0 H d nm las L) (nd : (nm.map Nm.name).Nodup) {i : Nat} {x : Nm} {la : Addr} (ei : nm[i]? = some x) (ela : las[i]? = some la) (hx : L' x = L' x) (ho : ∀ y ∈ nm, y.name ≠ x.name → L' y = L y) : Lists H0 (L2.upd H la (.lst (L' x))) d nm las L' := by
  have lam := List.mem_of_getElem? ela
  refine ⟨?_, h.len, h.nd, h.new, fun k y b ey eb => ?_⟩
  · rw [upd_ne (h.new la lam).2.symm]
    exact h.hd
  · by_cases z : b = la
    · have ki : k = i := by
        obtain ⟨k1, g1⟩ := List.getElem?_eq_some_iff.mp eb
        obtain ⟨k2, g2⟩ := List.getElem?_eq_some_iff.mp ela
        rcases Nat.lt_trichotomy k i with l | l | l
        · exact absurd (g1.trans (z.trans g2.symm)) (List.pairwise_iff_getElem.mp h.nd k i k1 k2 l)
        · exact l
        · exact absurd (g2.trans (z.symm.trans g1.symm)) (List.pairwise_iff_getElem.mp h.nd i k k2 k1 l)
      subst ki
      rw [ei] at ey
      cases ey
      rw [z]
      exact upd_same
    · have ne : y.name ≠ x.name := fun q' => by
        have e3 : (nm.map Nm.name)[k]? = some y.name := by rw [List.getElem?_map, ey]; rfl
        have e4 : (nm.map Nm.name)[i]? = some y.name := by rw [List.getElem?_map, ei, q']; rfl
        obtain ⟨k1, g1⟩ := List.getElem?_eq_some_iff.mp e3
        obtain ⟨k2, g2⟩ := List.getElem?_eq_some_iff.mp e4
        have : k = i := by
          rcases Nat.lt_trichotomy k i with l | l | l
          · exact absurd (g1.trans g2.symm) (List.pairwise_iff_getElem.mp nd k i k1 k2 l)
          · exact l
          · exact absurd (g2.trans g1.symm) (List.pairwise_iff_getElem.mp nd i k k2 k1 l)
        subst this
        rw [ela] at eb
        exact z (Option.some.inj eb).symm
      rw [ho y (List.mem_of_getElem? ey) ne, upd_ne z]
      exact h.at_ k y b ey eb
section
variable {P : Program} {w : World} {K : PySem.W.Frag} {mg : Str → Option Value} {base : Heap} {f f1 f2 f3 f4 f5 f6 f7 f8 f9 C CN CO CI CW : Addr} {fd fd1 fd2 fd3 fd4 fd5 fd6 fd7 fd8 fd9 : FuncData}
abbrev nRefuseBare : List Str := ["leading", "name", "place", "number"]
theorem scRefuseBare : FnScope nRefuseBare ["leading"] (defScope sRefuseBare) := ⟨rfl, rfl, rfl, by decide +kernel, rfl, by decide +kernel, by decide +kernel⟩
theorem ok_bare (F : FnP K "refuse_bare" sRefuseBare f fd) (gEnum : mg "enumerate" = none) : FnOk P w K mg base CX0 1 f fd ["leading"] spBare := by
  refine F.ok scRefuseBare (fun vs H Q E h => ?_) (fun cdv A outer s H vs Q E hr h => ?_)
  · obtain ⟨H0, dl, nm, las, ws, rfl, _⟩ := h
    rfl
  · obtain ⟨H0, dl, nm, las, ws, rfl, li, ok, kk⟩ := h
    have hu := hu_of hr
    have nd := scRefuseBare.nd
    refine ⟨_, PSs.nox (pss_one (ps_lock (ps_for PassesOwn.never rfl (pi_keys (pv 0)) (pg_name (i := 1) nd rfl (Or.inl rfl))
      (pss_one (ps_for PassesOwn.never rfl (pi_enum rfl gEnum (pa_cons (pe_dget hu (pv 0) (pv 1) (fun _ _ => rfl)) pa_nil)) (pg_tup rfl (pgs_cons (pg_name (i := 2) nd rfl (Or.inl rfl)) (pgs_cons (pg_name (i := 3) nd rfl (Or.inl rfl)) pgs_nil)))
      (pss_one (ps_if (pt_cmpR op_isN (pv 3) pe_non (nomark _)) pss_never pss_nil))))))), ?_⟩
    refine ⟨dl, _, li.hd, trivial, fun od => ?_⟩
    have hL : (upd H dl (.frz od (.dK (dLead nm las)))) dl = some (.frz od (.dK (dLead nm las))) := upd_same
    have atL : ∀ (i : Nat) (x : Nm) (la : Addr), nm[i]? = some x → las[i]? = some la → (upd H dl (.frz od (.dK (dLead nm las)))) la = some (.lst (leadL ws x.name x.inf.ts.length)) := fun i x la e1 e2 => by
      rw [upd_ne (li.new la (List.mem_of_getElem? e2)).2]
      exact li.at_ i x la e1 e2
    generalize eHL : upd H dl (.frz od (.dK (dLead nm las))) = HL at hL atL
    refine ⟨_, rfl, dl, od, rfl, .inl ⟨_, hL, ?_⟩⟩
    refine for_it (walk_keys (d := dl) (o := od) (kvs := dLead nm las)) (fun j σ G => ∃ w1 w2 w3 : Option V, σ = [some (.ref dl), w1, w2, w3] ∧ Same HL G) ⟨_, _, _, rfl, Same.refl _⟩ (fun j σ G _ e => by obtain ⟨_, _, _, _, sm⟩ := e; exact sm _ _ hL) ?_ ?_
    · rintro j v σ G G' hj ⟨w1, w2, w3, rfl, sG⟩ ⟨rfl, k, v', ek, rfl⟩
      obtain ⟨x, la, ex, ela, rfl, rfl⟩ := dLead_get ek
      have xm : x ∈ nm := List.mem_of_getElem? ex
      refine ⟨_, rfl, _, rfl, dl, _, rfl, .inl ⟨_, Sum.inr x.name, .inr ⟨od, sG _ _ hL⟩, rfl, (valV_lead ok.nms.nd ex ela).symm⟩, la, _, rfl, SqL.of (sG _ _ (atL j x la ex ela)), ?_⟩
      refine for_it (walk_enum (xs := leadL ws x.name x.inf.ts.length)) (fun i σ G2 => ∃ w2 w3 : Option V, σ = [some (.ref dl), some (.str x.name), w2, w3] ∧ Same HL G2) ⟨_, _, rfl, sG⟩ (fun i σ G2 _ e => by obtain ⟨_, _, _, sm⟩ := e; exact SqL.of (sm _ _ (atL j x la ex ela))) ?_ ?_
      · rintro i v σ G2 G3 hi ⟨w2, w3, rfl, sG2⟩ ⟨TT, x1, x2, rfl, hTT, rfl, e1, e2⟩
        cases e1
        rw [leadL_len] at hi
        have e2 : (leadL ws x.name x.inf.ts.length)[i]? = some x2 := e2
        rw [leadL_get hi] at e2
        obtain ⟨n, en⟩ := numAt_some (ok.all x xm i hi)
        rw [en] at e2
        cases e2
        refine ⟨TT, _, rfl, .inl (.inl upd_same), rfl, _, _, rfl, _, _, rfl, rfl, ?_⟩
        refine ⟨_, rfl, rfl, _, rfl, iteF ?_⟩
        exact ⟨_, _, rfl, Same.new sG2 hTT⟩
      · rintro σ G2 ⟨w2, w3, rfl, sG2⟩
        exact ⟨_, _, _, rfl, sG2⟩
    · rintro σ G ⟨w1, w2, w3, rfl, sG⟩
      exact ⟨sG _ _ hL, kk _ (unlock li.hd (eHL ▸ sG))⟩
end
end Sw
namespace Sw
open PySem PySem.Spec PyProof.Rows L2
/-- fresh lists for all nodes, as a comprehension over the names makes them -/
theorem Lists.snoc {H0 H H1 : Hp} {d la : Addr} {nm : List Nm} {las : List Addr} {L : Nm → List V} {x : Nm} (li : Lists H0 H d nm las L) (s : Same H H1) (fla : H0 la = none) (free : H la = none) (hla : H1 la = some (.lst (L x))) : Lists H0 (L2.upd H1 d (.dK (dLead nm las ++ [(Sum.inr x.name, .ref la)]))) d (nm ++ [x]) (las ++ [la]) L := by
  have laD : la ≠ d := (ne_of_none li.hd free).symm
  refine ⟨?_, ?_, ?_, fun a ha => ?_, fun i y a ey ea => ?_⟩
  · rw [dLead_snoc li.len.symm]
    exact upd_same
  · rw [List.length_append, List.length_append, li.len]
    rfl
  · rw [List.nodup_append]
    refine ⟨li.nd, List.nodup_cons.mpr ⟨List.not_mem_nil, List.nodup_nil⟩, fun a ha b hb => ?_⟩
    rw [List.mem_singleton.mp hb]
    intro z
    obtain ⟨i, ei⟩ := List.getElem?_of_mem ha
    have il := (List.getElem?_eq_some_iff.mp ei).1
    rw [li.len] at il
    have := li.at_ i _ a (List.getElem?_eq_getElem il) ei
    rw [z, free] at this
    cases this
  · rcases List.mem_append.mp ha with ha | ha
    · exact li.new a ha
    · rw [List.mem_singleton.mp ha]
      exact ⟨fla, laD⟩
  · by_cases z : i < las.length
    · rw [List.getElem?_append_left (by rw [← li.len]; exact z)] at ey
      rw [List.getElem?_append_left z] at ea
      rw [upd_ne (li.new a (List.mem_of_getElem? ea)).2]
      exact s _ _ (li.at_ i y a ey ea)
    · have il := (List.getElem?_eq_some_iff.mp ea).1
      rw [List.length_append] at il
      have e0 : i = las.length := by
        have : [la].length = 1 := rfl
        omega
      subst e0
      rw [List.getElem?_concat_length] at ea
      rw [li.len, List.getElem?_concat_length] at ey
      cases ea
      cases ey
      rw [upd_ne laD]
      exact hla
theorem Lists.none {H0 : Hp} {H : Hp} {d : Addr} {L : Nm → List V} (h : H d = some (.dK [])) : Lists H0 H d [] [] L := ⟨h, rfl, List.nodup_nil, fun _ h => (List.not_mem_nil h).elim, fun i x la h => by cases h⟩
theorem Lists.other {H0 H0' H H1 : Hp} {d : Addr} {nm : List Nm} {las : List Addr} {L L' : Nm → List V} (li : Lists H0 H d nm las L) (h0 : ∀ a, H0 a = Option.none → H0' a = Option.none) (hd : H1 d = some (.dK (dLead nm las))) (h : ∀ (i : Nat) (x : Nm) (la : Addr), nm[i]? = some x → las[i]? = some la → H1 la = some (.lst (L' x))) : Lists H0' H1 d nm las L' := ⟨hd, li.len, li.nd, fun a ha => ⟨h0 a (li.new a ha).1, (li.new a ha).2⟩, h⟩
section
variable {P : Program} {w : World} {K : PySem.W.Frag} {mg : Str → Option Value} {base : Heap} {f f1 f2 f3 f4 f5 f6 f7 f8 f9 C CN CO CI CW : Addr} {fd fd1 fd2 fd3 fd4 fd5 fd6 fd7 fd8 fd9 : FuncData}
abbrev nWiresBySource : List Str := ["wires", "named", "leaving", "number", "wire", "name"]
theorem scWiresBySource : FnScope nWiresBySource ["wires", "named"] (defScope sWiresBySource) := ⟨rfl, rfl, rfl, by decide +kernel, rfl, by decide +kernel, by decide +kernel⟩
theorem ok_leav (F : FnP K "wires_by_source" sWiresBySource f fd) (gEnum : mg "enumerate" = none) : FnOk P w K mg base CX0 1 f fd ["wires", "named"] (spLeav K) := by
  refine F.ok scWiresBySource (fun vs H Q E h => ?_) (fun cdv A outer s H vs Q E hr h => ?_)
  · obtain ⟨wl, d, nm, ws, rfl, _⟩ := h
    rfl
  · obtain ⟨wl, d, nm, ws, rfl, ⟨ps, hwl, al⟩, hd, ok, kk⟩ := h
    have hu := hu_of hr
    have nd := scWiresBySource.nd
    have few := ok.nms.few
    refine ⟨_, PSs.nox (pss_cons (ps_lock (ps_setDc (i := 2) (own := [("name", 5)]) (g := (gName 5)) (tt := tYes) rfl nd rfl rfl (swd_true rfl rfl rfl rfl) (pi_keys (pv 1)) (blkOk_by (N := nWiresBySource) (sc := defScope sWiresBySource) (by decide +kernel))
        (fun _ _ _ _ _ => (pg_name (i := 5) nd rfl (Or.inl rfl))) (fun _ _ _ _ _ => pts_nil) (fun _ _ _ _ _ => (pv 5)) (fun _ _ _ _ _ => (pe_lst pa_nil))))
      (pss_cons (ps_for PassesOwn.never rfl (pi_enum rfl gEnum (pa_cons (pv 0) pa_nil)) (pg_tup rfl (pgs_cons (pg_name (i := 3) nd rfl (Or.inl rfl)) (pgs_cons (pg_name (i := 4) nd rfl (Or.inl rfl)) pgs_nil)))
      (pss_one (ps_expr (pe_bm PySem.F.plainAttrs_list PySem.F.slot_list_append PySem.F.type_list_append mt_append (pe_dget hu (pv 2) (pe_ix ix_tup (pv 4) pe_int (fun _ _ => rfl)) (fun _ _ => rfl)) (pa_cons (pv 3) pa_nil)))))
      (pss_one (ps_ret (pv 2))))), ?_⟩
    refine ⟨d, _, hd, trivial, fun od => ?_⟩
    have hL : (upd H d (.frz od (.dK (dNamed nm)))) d = some (.frz od (.dK (dNamed nm))) := upd_same
    have freeL : ∀ {a : Addr}, (upd H d (.frz od (.dK (dNamed nm)))) a = none → H a = none := fun {a} e => by
      by_cases z : a = d
      · rw [z, hL] at e
        cases e
      · rw [upd_ne z] at e
        exact e
    generalize eHL : upd H d (.frz od (.dK (dNamed nm))) = HL at hL freeL
    refine ⟨_, rfl, d, od, rfl, .inl ⟨_, hL, fun D hD => ?_⟩⟩
    have nDd : D ≠ d := (ne_of_none hL hD).symm
    refine dc_it (walk_keys (d := d) (o := od) (kvs := dNamed nm)) (fun j H' => ∃ las, Lists HL H' D (nm.take j) las (fun _ => []) ∧ Same HL H') ⟨[], by rw [List.take_zero]; exact Lists.none upd_same, Same.past (Same.refl _) hD⟩ (fun j H' _ e => by obtain ⟨_, _, sm⟩ := e; exact sm _ _ hL) (fun j v H' H'' hj e y => ?_) (fun H' e => ?_)
    · obtain ⟨las, li, sm⟩ := e
      obtain ⟨rfl, k, v', ek, rfl⟩ := y
      obtain ⟨x, ex, rfl, rfl⟩ := dNamed_get ek
      refine ⟨rfl, ?_⟩
      refine yes_ite ?_
      refine ⟨_, rfl, (by show 0 ≤ sizeLine; decide), fun la hla => ?_⟩
      have s1 := Same.new (o := .lst []) (Same.refl H'') hla
      have nk : nm.take (j + 1) = nm.take j ++ [x] := by
        rw [List.take_succ, ex]
        rfl
      refine ⟨_, Sum.inr x.name, rfl, s1 _ _ li.hd, ?_, las ++ [la], ?_, Same.past (sm.trans s1) hD⟩
      · rw [dLead_len li.len, List.length_take]
        exact Nat.lt_of_le_of_lt (show _ ≤ 24 by omega) (by decide)
      rw [putK_new (dLead_no (name_ahead ok.nms.nd ex)), nk]
      exact li.snoc s1 (sm.free hla) hla upd_same
    · obtain ⟨las, li, sm⟩ := e
      have dn : (dNamed nm).length = nm.length := by
        unfold dNamed
        rw [List.length_map]
      rw [dn, List.take_length] at li
      refine ⟨sm _ _ hL, ?_⟩
      have u1 : Same H (upd H' d (.dK (dNamed nm))) := unlock hd (eHL ▸ sm)
      have fD : H D = none := freeL hD
      have li1 : Lists H (upd H' d (.dK (dNamed nm))) D nm las (fun x => outL ws x.name 0) := by
        refine li.other (fun a => freeL) (by rw [upd_ne nDd]; exact li.hd) fun i x a ex ea => ?_
        rw [upd_ne (fun z => by
          have := (li.new a (List.mem_of_getElem? ea)).1
          rw [z, hL] at this
          cases this)]
        exact li.at_ i x a ex ea
      generalize upd H' d (.dK (dNamed nm)) = H1 at u1 li1
      clear li sm
      refine ⟨_, rfl, wl, _, rfl, SqL.of (u1 _ _ hwl), ?_⟩
      refine for_it (walk_enum (xs := ps)) (fun j σ G => ∃ w3 w4 : Option V, σ = [some (.ref wl), some (.ref d), some (.ref D), w3, w4, none] ∧ Lists H G D nm las (fun x => outL ws x.name j) ∧ Same H G) ⟨_, _, rfl, li1, u1⟩ (fun j σ G _ e => by obtain ⟨_, _, _, _, sm⟩ := e; exact SqL.of (sm _ _ hwl)) ?_ ?_
      · rintro j v σ G G' hj ⟨w3, w4, rfl, li, sG⟩ ⟨TT, x1, x2, rfl, hTT, rfl, e1, e2⟩
        cases e1
        have e2 : ps[j]? = some x2 := e2
        obtain ⟨wr, ew, q, rfl, hq⟩ := al.get e2
        have wm : wr ∈ ws := List.mem_of_getElem? ew
        have sT := Same.new (o := .tup [V.int ((j : Nat) : Int), V.ref q]) (Same.refl G) hTT
        have sGT := sG.trans sT
        have liT := li.keep sT
        refine ⟨TT, _, rfl, .inl (.inl upd_same), rfl, _, _, rfl, _, _, rfl, rfl, ?_⟩
        generalize upd G TT (.tup [V.int ((j : Nat) : Int), V.ref q]) = GT at sT sGT liT
        obtain ⟨x, xm, exn, _⟩ := ok.src wr wm
        obtain ⟨i, ei⟩ := List.getElem?_of_mem xm
        have il : i < las.length := by
          rw [liT.len]
          exact (List.getElem?_eq_some_iff.mp ei).1
        obtain ⟨la, ela⟩ : ∃ la, las[i]? = some la := ⟨_, List.getElem?_eq_getElem il⟩
        have hla := liT.at_ i x la ei ela
        have dg : DGet GT D (.str wr.src) (some (.ref la)) := by
          rw [← (exn ▸ valV_lead ok.nms.nd ei ela : valV (dLead nm las) (Sum.inr wr.src) = some (.ref la))]
          exact DGet.k (k := Sum.inr wr.src) liT.hd
        refine ⟨_, rfl, _, rfl, q, _, _, _, rfl, rfl, Same.tup sGT hq, atI_nat (j := 0) rfl, D, _, rfl, dg, .inl ⟨rfl, _, SqL.of hla⟩, _, rfl, la, _, _, rfl, rfl, hla, ?_, ?_⟩
        · unfold outL
          rw [List.length_map]
          have := outN_len ws x.name j
          have := ok.few
          have := (List.getElem?_eq_some_iff.mp ew).1
          exact Nat.lt_of_le_of_lt (show _ ≤ 48 by omega) (by decide)
        have es : ∀ y : Nm, outL ws y.name (j + 1) = outL ws y.name j ++ (if wr.src = y.name then [V.int (j : Int)] else []) := fun y => by
          unfold outL
          show (outN ws y.name j ++ _).map _ = _
          rw [List.map_append, ew]
          congr 1
          by_cases z : wr.src = y.name
          · rw [if_pos z, if_pos (by rw [Option.map_some, z])]
            rfl
          · rw [if_neg z, if_neg (show ¬ Option.map Wr.src (some wr) = some y.name from fun q' => z (Option.some.inj q'))]
            rfl
        refine ⟨_, _, rfl, ?_, Same.past sGT (liT.new la (List.mem_of_getElem? ela)).1⟩
        have := liT.store (L' := fun x => outL ws x.name (j + 1)) ok.nms.nd ei ela rfl (fun y hy ne => by
          rw [es y, if_neg (fun z => ne (z.symm.trans exn.symm)), List.append_nil])
        rw [show outL ws x.name (j + 1) = outL ws x.name j ++ [V.int (j : Int)] by rw [es x, if_pos exn.symm]] at this
        exact this
      · rintro σ G ⟨w3, w4, rfl, li, sG⟩
        rw [al.len] at li
        exact ⟨_, rfl, kk D las G sG fD li⟩
end
end Sw
namespace Sw
open PySem PySem.Spec PyProof.Rows L2
/-! ### where one comes to -/
def dReach (rs : List Str) : List (Key × V) := rs.map fun s => (Sum.inr s, .bl true)
theorem reach_in {rs : List Str} {s : Str} : (valV (dReach rs) (Sum.inr s)).isSome = decide (s ∈ rs) := by
  induction rs with
  | nil => rfl
  | cons a r ih =>
    unfold valV dReach at ih ⊢
    rw [List.map_cons, List.find?_cons]
    by_cases z : a = s
    · rw [decide_eq_true (congrArg Sum.inr z), decide_eq_true (by rw [z]; exact List.mem_cons_self)]
      rfl
    · rw [decide_eq_false (fun q => z (Sum.inr.inj q))]
      show _ = decide (s ∈ a :: r)
      rw [ih]
      congr 1
      apply propext
      rw [List.mem_cons]
      exact ⟨.inr, fun h => h.resolve_left (Ne.symm z)⟩
theorem reach_put {rs : List Str} {s : Str} (h : s ∉ rs) : putK (dReach rs) (Sum.inr s) (.bl true) = dReach (rs ++ [s]) := by
  have : valV (dReach rs) (Sum.inr s) = none := by
    have e := reach_in (rs := rs) (s := s)
    rw [decide_eq_false h] at e
    cases z : valV (dReach rs) (Sum.inr s) with
    | none => rfl
    | some v => rw [z] at e; cases e
  rw [putK_new this]
  unfold dReach
  rw [List.map_append]
  rfl
theorem reach_again {rs : List Str} {s : Str} (h : s ∈ rs) : putK (dReach rs) (Sum.inr s) (.bl true) = dReach rs := by
  unfold putK
  rw [if_pos (show (dReach rs).any (fun kv => decide (kv.1 = Sum.inr s)) = true from List.any_eq_true.mpr ⟨(Sum.inr s, .bl true), List.mem_map.mpr ⟨s, h, rfl⟩, decide_eq_true rfl⟩)]
  unfold dReach
  rw [List.map_map]
  apply List.map_congr_left
  intro a _
  show (if (Sum.inr a : Key) = Sum.inr s then ((Sum.inr a : Key), V.bl true) else (Sum.inr a, V.bl true)) = _
  split <;> rfl
/-- rows of names by the nodes' names -/
def strL (l : List Str) : List V := l.map V.str
/-- one comes there from the starts -/
inductive RL (nm : List Nm) (L : Nm → List Str) (starts : List Str) : Str → Prop
  | start {s : Str} : s ∈ starts → RL nm L starts s
  | step {x : Nm} {s : Str} : x ∈ nm → RL nm L starts x.name → s ∈ L x → RL nm L starts s
/-- each once, in order -/
def onceF (acc : List Str) (s : Str) : List Str := if s ∈ acc then acc else acc ++ [s]
def once (l : List Str) : List Str := l.foldl onceF []
theorem onceF_mem {acc : List Str} {x s : Str} : s ∈ onceF acc x ↔ s ∈ acc ∨ s = x := by
  unfold onceF
  split
  · rename_i h
    exact ⟨.inl, fun z => z.elim id (fun e => e ▸ h)⟩
  · rw [List.mem_append, List.mem_singleton]
theorem onceF_nd {acc : List Str} {x : Str} (h : acc.Nodup) : (onceF acc x).Nodup := by
  unfold onceF
  split
  · exact h
  · rename_i n
    rw [List.nodup_append]
    exact ⟨h, List.nodup_cons.mpr ⟨List.not_mem_nil, List.nodup_nil⟩, fun a ha b hb q => n (by rw [← List.mem_singleton.mp hb, ← q]; exact ha)⟩
theorem once_memA {s : Str} : ∀ {l acc : List Str}, s ∈ l.foldl onceF acc ↔ s ∈ acc ∨ s ∈ l
  | [], acc => ⟨.inl, fun z => z.elim id (fun e => nomatch e)⟩
  | x :: l, acc => by
    rw [List.foldl_cons, once_memA, onceF_mem, List.mem_cons, or_assoc]
theorem once_mem {s : Str} {l : List Str} : s ∈ once l ↔ s ∈ l := by
  unfold once
  rw [once_memA]
  exact ⟨fun z => z.elim (fun e => nomatch e) id, .inr⟩
theorem once_ndA : ∀ {l acc : List Str}, acc.Nodup → (l.foldl onceF acc).Nodup
  | [], _, h => h
  | _ :: l, _, h => by
    rw [List.foldl_cons]
    exact once_ndA (onceF_nd h)
theorem once_nd {l : List Str} : (once l).Nodup := once_ndA List.nodup_nil
theorem once_snoc {l : List Str} {x : Str} : once (l ++ [x]) = onceF (once l) x := by
  unfold once
  rw [List.foldl_append]
  rfl
def spReached : Sp := fun vs H Q _ => ∃ (H0 : Hp) (st on : Addr) (starts : List Str) (nm : List Nm) (las : List Addr) (L : Nm → List Str), vs = [.ref st, .ref on] ∧ H st = some (.lst (strL starts)) ∧ starts.length ≤ 24 ∧ Lists H0 H on nm las (fun x => strL (L x)) ∧ NmsOk nm ∧ (∀ s ∈ starts, s ∈ nm.map Nm.name) ∧ (∀ x ∈ nm, ∀ s ∈ L x, s ∈ nm.map Nm.name) ∧
  ∀ (r : Addr) (rs : List Str) (H' : Hp), Same H H' → H r = none → H' r = some (.dK (dReach rs)) → (∀ s ∈ starts, s ∈ rs) → (∀ x ∈ nm, x.name ∈ rs → ∀ s ∈ L x, s ∈ rs) → (∀ s ∈ rs, s ∈ nm.map Nm.name) → (∀ s ∈ rs, RL nm L starts s) → Q (.ref r) H'
theorem nodup_len : ∀ {rs ns : List Str}, rs.Nodup → (∀ x ∈ rs, x ∈ ns) → rs.length ≤ ns.length
  | [], _, _, _ => Nat.zero_le _
  | a :: r, ns, h, s => by
    have h1 := List.nodup_cons.mp h
    have am := s a List.mem_cons_self
    have ih := nodup_len (ns := ns.erase a) h1.2 fun x hx => (List.mem_erase_of_ne (fun z => h1.1 (by rw [← z]; exact hx))).mpr (s x (List.mem_cons_of_mem _ hx))
    rw [List.length_erase_of_mem am] at ih
    have := List.length_pos_of_mem am
    rw [List.length_cons]
    omega
theorem nm_inj {nm : List Nm} (nd : (nm.map Nm.name).Nodup) {x y : Nm} (hx : x ∈ nm) (hy : y ∈ nm) (e : x.name = y.name) : x = y := by
  obtain ⟨i, ei⟩ := List.getElem?_of_mem hx
  obtain ⟨j, ej⟩ := List.getElem?_of_mem hy
  have e1 : (nm.map Nm.name)[i]? = some x.name := by rw [List.getElem?_map, ei]; rfl
  have e2 : (nm.map Nm.name)[j]? = some x.name := by rw [List.getElem?_map, ej, e]; rfl
  obtain ⟨i1, f1⟩ := List.getElem?_eq_some_iff.mp e1
  obtain ⟨j1, f2⟩ := List.getElem?_eq_some_iff.mp e2
  have : i = j := by
    rcases Nat.lt_trichotomy i j with z | z | z
    · exact absurd (f1.trans f2.symm) (List.pairwise_iff_getElem.mp nd i j i1 j1 z)
    · exact z
    · exact absurd (f2.trans f1.symm) (List.pairwise_iff_getElem.mp nd j i j1 i1 z)
  rw [this, ej] at ei
  exact (Option.some.inj ei).symm
theorem seq_while {c : L2.TT} {tb u : L2.TS} {D : L2.Ends} {σ : L2.St} {H : Hp} (h : L2.tWhile c tb { D with nx := u D } σ H) : L2.tSeq (L2.tWhile c tb) u D σ H := h
section
variable {P : Program} {w : World} {K : PySem.W.Frag} {mg : Str → Option Value} {base : Heap} {f f1 f2 f3 f4 f5 f6 f7 f8 f9 C CN CO CI CW : Addr} {fd fd1 fd2 fd3 fd4 fd5 fd6 fd7 fd8 fd9 : FuncData}
abbrev nAllReached : List Str := ["starts", "onward", "reached", "coming", "here", "name"]
theorem scAllReached : FnScope nAllReached ["starts", "onward"] (defScope sAllReached) := ⟨rfl, rfl, rfl, by decide +kernel, rfl, by decide +kernel, by decide +kernel⟩
theorem ok_reached (F : FnP K "all_reached" sAllReached f fd) (gList : mg "list" = none) : FnOk P w K mg base CX0 1 f fd ["starts", "onward"] spReached := by
  refine F.ok scAllReached (fun vs H Q E h => ?_) (fun cdv A outer s H vs Q E hr h => ?_)
  · obtain ⟨H0, st, on, starts, nm, las, L, rfl, _⟩ := h
    rfl
  · obtain ⟨H0, st, on, starts, nm, las, L, rfl, hst, snd, li, nok, sin, lin, kk⟩ := h
    have hu := hu_of hr
    have nd := scAllReached.nd
    have few : (nm.map Nm.name).length ≤ 24 := by
      rw [List.length_map]
      exact nok.few
    refine ⟨_, PSs.nox (pss_cons (ps_setDc (i := 2) (own := [("name", 5)]) (g := (gName 5)) (tt := tYes) rfl nd rfl rfl (swd_true rfl rfl rfl rfl) (pi_list (pv 0)) (blkOk_by (N := nAllReached) (sc := defScope sAllReached) (by decide +kernel))
        (fun _ _ _ _ _ => (pg_name (i := 5) nd rfl (Or.inl rfl))) (fun _ _ _ _ _ => pts_nil) (fun _ _ _ _ _ => (pv 5)) (fun _ _ _ _ _ => pe_bl))
      (pss_cons (ps_set (i := 3) nd rfl (Or.inl rfl) (pe_callTy (call_list_ofK (K := K) rfl) (by rfl) gList PyProof.Rows.boot_list (pa_cons (pv 0) pa_nil)))
      (pss_cons (ps_while PassesOwn.never (pt_truth (pv 3) (fun _ => rfl))
      (pss_cons (ps_set (i := 4) nd rfl (Or.inl rfl) (pe_bm0 PySem.F.plainAttrs_list PySem.F.slot_list_pop PySem.F.type_list_pop mt_pop (pv 3)))
      (pss_one (ps_for PassesOwn.never rfl (pi_list (pe_dget hu (pv 1) (pv 4) (fun _ _ => rfl))) (pg_name (i := 5) nd rfl (Or.inl rfl))
      (pss_one (ps_if (pt_cmp (pc_dnotin hu (pv 5) (pv 2))) (pss_cons (ps_dput hu (pv 2) (pv 5) pe_bl rfl)
      (pss_one (ps_expr (pe_bm PySem.F.plainAttrs_list PySem.F.slot_list_append PySem.F.type_list_append mt_append (pv 3) (pa_cons (pv 5) pa_nil))))) pss_nil))))))
      (pss_one (ps_ret (pv 2)))))), ?_⟩
    refine ⟨_, rfl, st, rfl, ⟨_, SqL.of hst⟩, fun r hr0 => ?_⟩
    refine dc_it (walk_list (xs := strL starts)) (fun j H' => H' r = some (.dK (dReach (once (starts.take j)))) ∧ Same H H') ⟨by rw [List.take_zero]; exact upd_same, Same.past (Same.refl _) hr0⟩ (fun j H' _ e => SqL.of (e.2 _ _ hst)) (fun j v H' H'' hj e y => ?_) (fun H1 e => ?_)
    · obtain ⟨hrr, sm⟩ := e
      obtain ⟨rfl, ex⟩ := y
      unfold strL at ex
      rw [List.getElem?_map] at ex
      obtain ⟨x, ey, e0⟩ := Option.map_eq_some_iff.mp ex
      clear ex
      have ex := ey
      clear ey
      subst e0
      refine ⟨rfl, ?_⟩
      refine yes_ite ?_
      refine ⟨_, rfl, _, Sum.inr x, rfl, hrr, ?_, ?_, Same.past sm hr0⟩
      · unfold dReach
        rw [List.length_map]
        have := nodup_len (once_nd (l := starts.take j)) (fun s h => sin s (List.mem_of_mem_take (once_mem.mp h)))
        exact Nat.lt_of_le_of_lt (show _ ≤ 24 by omega) (by decide)
      · rw [List.take_succ, ex]
        show _ = some (HO.dK (dReach (once (starts.take j ++ [x]))))
        rw [once_snoc]
        unfold onceF
        by_cases z : x ∈ once (starts.take j)
        · rw [if_pos z, reach_again z]
          exact upd_same
        · rw [if_neg z, reach_put z]
          exact upd_same
    · obtain ⟨hrr, s1⟩ := e
      have sl : (strL starts).length = starts.length := by
        unfold strL
        rw [List.length_map]
      rw [sl, List.take_length] at hrr
      refine ⟨_, rfl, st, _, rfl, .inl (SqL.of (s1 _ _ hst)), fun co hco => ?_⟩
      have nrc : r ≠ co := ne_of_none hrr hco
      have s2 := Same.new (o := .lst (strL starts)) (Same.refl H1) hco
      have fco : H co = none := s1.free hco
      -- what is reached is closed but for what is coming
      dsimp only [gName]
      refine seq_while (while_by (fun σ G => ∃ (w4 w5 : Option V) (rs cs : List Str), σ = [some (.ref st), some (.ref on), some (.ref r), some (.ref co), w4, w5] ∧ G r = some (.dK (dReach rs)) ∧ G co = some (.lst (strL cs)) ∧ Same H G ∧ rs.Nodup ∧ (∀ s ∈ rs, s ∈ nm.map Nm.name) ∧ (∀ s ∈ cs, s ∈ rs) ∧ (∀ s ∈ starts, s ∈ rs) ∧ (∀ x ∈ nm, x.name ∈ rs → x.name ∉ cs → ∀ s ∈ L x, s ∈ rs) ∧ 2 * (24 - rs.length) + cs.length ≤ 72 ∧ ∀ s ∈ rs, RL nm L starts s)
        (fun σ G => match G r, G co with
          | some (.dK kvs), some (.lst xs) => 2 * (24 - kvs.length) + xs.length
          | _, _ => 0)
        ⟨_, _, once starts, starts, rfl, s2 _ _ hrr, upd_same, s1.trans s2, once_nd, fun s h => sin s (once_mem.mp h), fun s h => once_mem.mpr h, fun s h => once_mem.mpr h, fun x _ h1 h2 => absurd (once_mem.mp h1) h2, by omega, fun s h => .start (once_mem.mp h)⟩ ?_ ?_)
      · rintro σ G ⟨w4, w5, rs, cs, rfl, hR, hC, sG, rnd, rin, cin, stin, clo, clen, rl0⟩
        refine ⟨_, rfl, _, .inl ⟨_, SqL.of hC, rfl⟩, ?_⟩
        rcases List.eq_nil_or_concat cs with rfl | ⟨c1, here, rfl⟩
        · refine iteF_ rfl ?_
          exact ⟨_, rfl, kk r rs G sG hr0 hR stin (fun x hx h => clo x hx h List.not_mem_nil) rin rl0⟩
        · rw [List.concat_eq_append] at hC cin clo clen ⊢
          have e2 : strL (c1 ++ [here]) = strL c1 ++ [V.str here] := by
            unfold strL
            rw [List.map_append]
            rfl
          rw [e2] at hC ⊢
          refine iteT_ (by cases strL c1 <;> rfl) ?_
          have mu0 : (match G r, G co with
            | some (.dK kvs), some (.lst xs) => 2 * (24 - kvs.length) + xs.length
            | _, _ => 0) = 2 * (24 - rs.length) + (c1.length + 1) := by
            rw [hR, hC]
            show 2 * (24 - (dReach rs).length) + (strL c1 ++ [V.str here]).length = _
            unfold dReach strL
            rw [List.length_map, List.length_append, List.length_map]
            rfl
          rw [mu0]
          clear mu0
          refine ⟨_, rfl, .inl ⟨rfl, _, SqL.of hC⟩, co, _, V.str here, rfl, rfl, hC, ?_, ?_⟩
          · rw [List.length_append]
            exact List.getElem?_concat_length
          rw [List.dropLast_concat]
          obtain ⟨x, xm, ex⟩ := List.mem_map.mp (rin here (cin here (List.mem_append_right _ List.mem_cons_self)))
          obtain ⟨i, ei⟩ := List.getElem?_of_mem xm
          have il : i < las.length := by
            rw [li.len]
            exact (List.getElem?_eq_some_iff.mp ei).1
          obtain ⟨la, ela⟩ : ∃ la, las[i]? = some la := ⟨_, List.getElem?_eq_getElem il⟩
          have sG1 : Same H (upd G co (.lst (strL c1))) := Same.past sG fco
          have hR1 : upd G co (.lst (strL c1)) r = some (.dK (dReach rs)) := by
            rw [upd_ne nrc]
            exact hR
          have hC1 : upd G co (.lst (strL c1)) co = some (.lst (strL c1)) := upd_same
          generalize upd G co (.lst (strL c1)) = G1 at sG1 hR1 hC1
          have dg : DGet G1 on (.str here) (some (.ref la)) := by
            rw [← (ex ▸ valV_lead nok.nd ei ela : valV (dLead nm las) (Sum.inr here) = some (.ref la))]
            exact DGet.k (k := Sum.inr here) (sG1 _ _ li.hd)
          refine ⟨_, rfl, _, rfl, on, _, rfl, dg, la, rfl, ⟨_, SqL.of (sG1 _ _ (li.at_ i x la ei ela))⟩, ?_⟩
          refine for_list (xs := strL (L x)) (fun j σ G => ∃ (w5 : Option V) (rs1 cs1 : List Str), σ = [some (.ref st), some (.ref on), some (.ref r), some (.ref co), some (.str here), w5] ∧ G r = some (.dK (dReach rs1)) ∧ G co = some (.lst (strL cs1)) ∧ Same H G ∧ rs1.Nodup ∧ (∀ s ∈ rs1, s ∈ nm.map Nm.name) ∧ (∀ s ∈ cs1, s ∈ rs1) ∧ (∀ s ∈ rs, s ∈ rs1) ∧ (∀ s ∈ (L x).take j, s ∈ rs1) ∧ (∀ x ∈ nm, x.name ∈ rs1 → x.name ∉ cs1 → x.name ≠ here → ∀ s ∈ L x, s ∈ rs1) ∧ (∀ s ∈ rs1, RL nm L starts s) ∧ 2 * (24 - rs1.length) + cs1.length ≤ 2 * (24 - rs.length) + c1.length)
            ⟨_, rs, c1, rfl, hR1, hC1, sG1, rnd, rin, fun s h => cin s (List.mem_append_left _ h), fun s h => h, (fun s h => by rw [List.take_zero] at h; cases h), fun y hy h1 h2 h3 => clo y hy h1 (fun z => (List.mem_append.mp z).elim h2 (fun z => h3 (List.mem_singleton.mp z))), rl0, Nat.le_refl _⟩
            (fun j σ G _ e => by obtain ⟨_, _, _, _, _, _, sm, _⟩ := e; exact SqL.of (sm _ _ (li.at_ i x la ei ela))) ?_ ?_
          · rintro j v σ G2 ev ⟨w5, rs1, cs1, rfl, hR2, hC2, sG2, rnd2, rin2, cin2, sub2, tk2, clo2, clen2, mu2⟩
            have ev' := ev
            unfold strL at ev'
            rw [List.getElem?_map] at ev'
            obtain ⟨n, en, e0⟩ := Option.map_eq_some_iff.mp ev'
            clear ev' ev
            subst e0
            have nin : n ∈ nm.map Nm.name := lin x xm n (List.mem_of_getElem? en)
            have tks : ∀ rs' : List Str, (∀ s ∈ rs1, s ∈ rs') → n ∈ rs' → ∀ s ∈ (L x).take (j + 1), s ∈ rs' := fun rs' h1 h2 s hs => by
              rw [List.take_succ, en] at hs
              rcases List.mem_append.mp hs with hs | hs
              · exact h1 s (tk2 s hs)
              · rw [List.mem_singleton.mp hs]
                exact h2
            have dg2 : DGet G2 r (.str n) (valV (dReach rs1) (Sum.inr n)) := DGet.k (k := Sum.inr n) hR2
            have rl : rs1.length ≤ 24 := Nat.le_trans (nodup_len rnd2 rin2) few
            refine ⟨_, rfl, _, rfl, r, _, rfl, dg2, _, rfl, ?_⟩
            by_cases z : n ∈ rs1
            · refine iteF_ (by rw [reach_in, decide_eq_true z]; rfl) ?_
              exact ⟨_, rs1, cs1, rfl, hR2, hC2, sG2, rnd2, rin2, cin2, sub2, tks rs1 (fun s h => h) z, clo2, clen2, mu2⟩
            · refine iteT_ (by rw [reach_in, decide_eq_false z]; rfl) ?_
              have rl1 : (n :: rs1).length ≤ 24 := Nat.le_trans (nodup_len (List.nodup_cons.mpr ⟨z, rnd2⟩) (fun s h => by
                rcases List.mem_cons.mp h with h | h
                · rw [h]; exact nin
                · exact rin2 s h)) few
              rw [List.length_cons] at rl1
              refine ⟨_, rfl, _, rfl, r, _, rfl, DPut.k (k := Sum.inr n) hR2 ?_, ?_⟩
              · unfold dReach
                rw [List.length_map]
                exact Nat.lt_of_le_of_lt rl (by decide)
              rw [reach_put z]
              have hC3 : upd G2 r (.dK (dReach (rs1 ++ [n]))) co = some (.lst (strL cs1)) := by
                rw [upd_ne nrc.symm]
                exact hC2
              refine ⟨_, rfl, .inl ⟨rfl, _, SqL.of hC3⟩, _, rfl, co, _, _, rfl, rfl, hC3, ?_, ?_⟩
              · unfold strL
                rw [List.length_map]
                have := clen
                rw [List.length_append] at this
                have : cs1.length ≤ 72 := by
                  show _ ≤ _
                  omega
                exact Nat.lt_of_le_of_lt this (by decide)
              refine ⟨_, rs1 ++ [n], cs1 ++ [n], rfl, ?_, ?_, Same.past (Same.past sG2 hr0) fco, ?_, ?_, ?_, ?_, ?_, ?_, ?_, ?_⟩
              · rw [upd_ne nrc]
                exact upd_same
              · rw [upd_same]
                unfold strL
                rw [List.map_append]
                rfl
              · rw [List.nodup_append]
                exact ⟨rnd2, List.nodup_cons.mpr ⟨List.not_mem_nil, List.nodup_nil⟩, fun a ha b hb q => z (by rw [← List.mem_singleton.mp hb, ← q]; exact ha)⟩
              · intro s h
                rcases List.mem_append.mp h with h | h
                · exact rin2 s h
                · rw [List.mem_singleton.mp h]; exact nin
              · intro s h
                rcases List.mem_append.mp h with h | h
                · exact List.mem_append_left _ (cin2 s h)
                · exact List.mem_append_right _ h
              · exact fun s h => List.mem_append_left _ (sub2 s h)
              · exact tks _ (fun s h => List.mem_append_left _ h) (List.mem_append_right _ List.mem_cons_self)
              · intro y hy h1 h2 h3 s hs
                rcases List.mem_append.mp h1 with h1 | h1
                · exact List.mem_append_left _ (clo2 y hy h1 (fun q => h2 (List.mem_append_left _ q)) h3 s hs)
                · exact absurd (List.mem_append_right _ h1) h2
              · intro s h
                rcases List.mem_append.mp h with h | h
                · exact clen2 s h
                · rw [List.mem_singleton.mp h]
                  exact .step xm (by rw [ex]; exact rl0 here (cin here (List.mem_append_right _ List.mem_cons_self))) (List.mem_of_getElem? en)
              · rw [List.length_append, List.length_append]
                show 2 * (24 - (rs1.length + 1)) + (cs1.length + 1) ≤ _
                omega
          · rintro σ G2 ⟨w5, rs1, cs1, rfl, hR2, hC2, sG2, rnd2, rin2, cin2, sub2, tk2, clo2, clen2, mu2⟩
            have ll : (strL (L x)).length = (L x).length := by
              unfold strL
              rw [List.length_map]
            rw [ll, List.take_length] at tk2
            refine ⟨⟨_, _, rs1, cs1, rfl, hR2, hC2, sG2, rnd2, rin2, cin2, fun s h => sub2 s (stin s h), fun y hy h1 h2 s hs => ?_, ?_, clen2⟩, ?_⟩
            · by_cases z : y.name = here
              · have : y = x := nm_inj nok.nd hy xm (z.trans ex.symm)
                rw [this] at hs
                exact tk2 s hs
              · exact clo2 y hy h1 h2 z s hs
            · have := clen
              rw [List.length_append] at this
              have : c1.length + 1 = c1.length + [here].length := rfl
              omega
            · rw [hR2, hC2]
              show 2 * (24 - (dReach rs1).length) + (strL cs1).length < _
              unfold dReach strL
              rw [List.length_map, List.length_map]
              omega
      · rintro σ G Q1 Q2 hq ⟨v, e1, k, e2, e3⟩
        exact ⟨v, e1, k, e2, hq _ _ e3⟩
end
end Sw
namespace Sw
open PySem PySem.Spec PyProof.Rows L2
/-! ### all is fed -/
def goN (ws : List Wr) (n : Nat) : Str := match ws[n]? with
  | some w => w.goal
  | none => ""
theorem goN_at {ws : List Wr} {n : Nat} {w : Wr} (h : ws[n]? = some w) : goN ws n = w.goal := by
  unfold goN
  rw [h]
/-- where the wires from a name lead to -/
def onN (ws : List Wr) (s : Str) : List Str := (outN ws s ws.length).map (goN ws)
theorem onN_of {ws : List Wr} {w : Wr} (h : w ∈ ws) : w.goal ∈ onN ws w.src := by
  obtain ⟨i, ei⟩ := List.getElem?_of_mem h
  unfold onN
  rw [List.mem_map]
  exact ⟨i, outN_mem.mpr ⟨(List.getElem?_eq_some_iff.mp ei).1, by rw [ei]; rfl⟩, goN_at ei⟩
theorem onN_in {ws : List Wr} {s g : Str} (h : g ∈ onN ws s) : ∃ w ∈ ws, w.src = s ∧ w.goal = g := by
  unfold onN at h
  obtain ⟨n, hn, e⟩ := List.mem_map.mp h
  obtain ⟨_, h2⟩ := outN_mem.mp hn
  obtain ⟨w, ew, es⟩ := Option.map_eq_some_iff.mp h2
  exact ⟨w, List.mem_of_getElem? ew, es, by rw [← e, goN_at ew]⟩
def startN (nm : List Nm) : List Str := (nm.filter fun x => x.inf.inl).map Nm.name
theorem reach_all {nm : List Nm} {ws : List Wr} (ok : WvOk nm ws) {rs : List Str} (h1 : ∀ s ∈ startN nm, s ∈ rs) (h2 : ∀ x ∈ nm, x.name ∈ rs → ∀ s ∈ onN ws x.name, s ∈ rs) : ∀ x ∈ nm, x.name ∈ rs := by
  have : ∀ s, Reach nm ws s → s ∈ rs := fun s r => by
    induction r with
    | inl h i => exact h1 _ (List.mem_map.mpr ⟨_, List.mem_filter.mpr ⟨h, i⟩, rfl⟩)
    | step h r ih =>
      obtain ⟨y, hy, ey, _⟩ := ok.src _ h
      exact h2 y hy (by rw [ey]; exact ih) _ (by rw [ey]; exact onN_of h)
  exact fun x hx => this _ (ok.reach x hx)

abbrev scUnfed1 : Scope := { kind := .function, names := [(Str.ofString ".0", .local), (Str.ofString "name", .local), (Str.ofString "leaving", .cell), (Str.ofString "wires", .cell)], isGenerator := false, isCoroutine := false }
def spUnfed {K : PySem.W.Frag} {CN CO CI : Addr} (S : Sorts K CN CO CI) : Sp := fun vs H Q _ => ∃ (H0 : Hp) (d wl dl : Addr) (nm : List Nm) (las : List Addr) (ws : List Wr), vs = [.ref d, .ref wl, .ref dl] ∧ dl ≠ d ∧ H d = some (.dK (dNamed nm)) ∧ WiresAt K H wl ws ∧ Lists H0 H dl nm las (fun x => outL ws x.name ws.length) ∧ WvOk nm ws ∧ Nodes S nm H ∧ ∀ H', Same H H' → Q .non H'
section
variable {P : Program} {w : World} {K : PySem.W.Frag} {mg : Str → Option Value} {base : Heap} {f f1 f2 f3 f4 f5 f6 f7 f8 f9 C CN CO CI CW : Addr} {fd fd1 fd2 fd3 fd4 fd5 fd6 fd7 fd8 fd9 : FuncData}
abbrev nRefuseUnfed : List Str := ["named", "wires", "leaving", "onward", "reached", "name", "number"]
theorem scRefuseUnfed : FnScope nRefuseUnfed ["named", "wires", "leaving"] (defScope sRefuseUnfed) := ⟨rfl, rfl, rfl, by decide +kernel, rfl, by decide +kernel, by decide +kernel⟩
theorem ok_unfed (S : Sorts K CN CO CI) (F : FnP K "refuse_unfed" sRefuseUnfed f fd) (GRe : FnOk P w K mg base CX0 1 f1 fd1 ["starts", "onward"] spReached) (gRe : mg "all_reached" = some (.ref f1)) (kRe : PySem.W.keepIn K (.ref f1) = true) (bRe : Binds K fd1 ["starts", "onward"] []) (gI : mg "Inlet" = some (.ref CI)) (gIs : mg "isinstance" = none) : FnOk P w K mg base CX0 2 f fd ["named", "wires", "leaving"] (spUnfed S) := by
  refine F.ok scRefuseUnfed (fun vs H Q E h => ?_) (fun cdv A outer s H vs Q E hr h => ?_)
  · obtain ⟨H0, d, wl, dl, nm, las, ws, rfl, _⟩ := h
    rfl
  · obtain ⟨H0, d, wl, dl, nm, las, ws, rfl, ndl, hd, ⟨ps, hwl, al⟩, li, ok, nodes, kk⟩ := h
    have hu := hu_of hr
    have nd := scRefuseUnfed.nd
    have few := ok.nms.few
    refine ⟨_, PSs.nox (pss_cons (ps_lock (ps_setDc (i := 3) (own := [("name", 5)]) (g := (gName 5)) (tt := tYes) rfl nd rfl rfl (swd_true rfl rfl rfl rfl) (pi_keys (pv 0)) (blkOk_by (N := nRefuseUnfed) (sc := defScope sRefuseUnfed) (by decide +kernel))
        (fun _ _ _ _ _ => (pg_name (i := 5) nd rfl (Or.inl rfl))) (fun _ _ _ _ _ => pts_nil) (fun _ _ _ _ _ => (pv 5)) (fun _ _ _ _ _ => (pe_lc (own := [("number", 6)]) (g := (gName 6)) (tt := tYes) rfl nd (pi_listK (K := K) rfl (pe_dget hu (pv 2) (pv 5) (fun _ _ => rfl))) (blkOk_by (N := nRefuseUnfed) (sc := scUnfed1) (by decide +kernel))
        (fun _ _ _ _ _ => (pg_name (i := 6) nd rfl (Or.inl rfl))) (fun _ _ _ _ _ => pts_nil) (fun _ _ _ _ _ => (pe_ix (ix_tupK (K := K) rfl) (pe_ix (ix_listK (K := K) rfl) (pv 1) (pv 6) (fun _ _ => rfl)) pe_int (fun _ _ => rfl)))))))
      (pss_cons (ps_set (i := 4) nd rfl (Or.inl rfl) (pe_call GRe hr rfl gRe kRe bRe .nil pass0 (pa_cons (pe_lock (pe_lc (own := [("name", 5)]) (g := (gName 5)) (tt := _) rfl nd (pi_keys (pv 0)) (blkOk_by (N := nRefuseUnfed) (sc := defScope sRefuseUnfed) (by decide +kernel))
        (fun _ _ _ _ _ => (pg_name (i := 5) nd rfl (Or.inl rfl))) (fun _ _ _ _ _ => (pts_one (pt_val (pe_callB (call_isiG (K := K) rfl) (by rfl) gIs boot_isinstance (pa_cons (pe_dget hu (pv 0) (pv 5) (fun _ _ => rfl)) (pa_cons (pe_glob (v := .ref CI) rfl gI rfl) pa_nil)))))) (fun _ _ _ _ _ => (pv 5)))) (pa_cons (pv 3) pa_nil))))
      (pss_one (ps_lock (ps_for PassesOwn.never rfl (pi_keys (pv 0)) (pg_name (i := 5) nd rfl (Or.inl rfl))
      (pss_one (ps_if (pt_cmp (pc_dnotin hu (pv 5) (pv 4))) pss_never pss_nil))))))), ?_⟩
    -- where each name leads to
    refine ⟨d, _, hd, trivial, fun od => ?_⟩
    have hL : (upd H d (.frz od (.dK (dNamed nm)))) d = some (.frz od (.dK (dNamed nm))) := upd_same
    have freeL : ∀ {a : Addr}, (upd H d (.frz od (.dK (dNamed nm)))) a = none → H a = none := fun {a} e => by
      by_cases z : a = d
      · rw [z, hL] at e
        cases e
      · rw [upd_ne z] at e
        exact e
    have wlL : (upd H d (.frz od (.dK (dNamed nm)))) wl = some (.lst ps) := lock_ne hd hwl (fun _ z => by cases z)
    have alL : Al (WireAt K (upd H d (.frz od (.dK (dNamed nm))))) ps ws := al.imp fun p x ⟨q, e, h⟩ => ⟨q, e, lock_tup hd h⟩
    have atL : ∀ (i : Nat) (x : Nm) (la : Addr), nm[i]? = some x → las[i]? = some la → (upd H d (.frz od (.dK (dNamed nm)))) la = some (.lst (outL ws x.name ws.length)) := fun i x la e1 e2 => lock_ne hd (li.at_ i x la e1 e2) (fun _ z => by cases z)
    have dlL : (upd H d (.frz od (.dK (dNamed nm)))) dl = some (.dK (dLead nm las)) := by
      rw [upd_ne ndl]
      exact li.hd
    generalize eHL : upd H d (.frz od (.dK (dNamed nm))) = HL at hL freeL wlL alL atL dlL
    refine ⟨_, rfl, d, od, rfl, .inl ⟨_, hL, fun D hD => ?_⟩⟩
    have nDd : D ≠ d := (ne_of_none hL hD).symm
    refine dc_it (walk_keys (d := d) (o := od) (kvs := dNamed nm)) (fun j H' => ∃ las, Lists HL H' D (nm.take j) las (fun x => strL (onN ws x.name)) ∧ Same HL H') ⟨[], by rw [List.take_zero]; exact Lists.none upd_same, Same.past (Same.refl _) hD⟩ (fun j H' _ e => by obtain ⟨_, _, sm⟩ := e; exact sm _ _ hL) (fun j v H' H'' hj e y => ?_) (fun H' e => ?_)
    · obtain ⟨las2, li2, sm⟩ := e
      obtain ⟨rfl, k, v', ek, rfl⟩ := y
      obtain ⟨x, ex, rfl, rfl⟩ := dNamed_get ek
      have xm : x ∈ nm := List.mem_of_getElem? ex
      have jl : j < las.length := by
        rw [li.len]
        exact (List.getElem?_eq_some_iff.mp ex).1
      obtain ⟨la, ela⟩ : ∃ la, las[j]? = some la := ⟨_, List.getElem?_eq_getElem jl⟩
      refine ⟨rfl, ?_⟩
      refine yes_ite ?_
      refine ⟨_, rfl, _, rfl, _, rfl, dl, _, rfl, .inl ⟨_, Sum.inr x.name, .inl (sm _ _ dlL), rfl, (valV_lead ok.nms.nd ex ela).symm⟩, la, rfl, ⟨_, SqL.of (sm _ _ (atL j x la ex ela))⟩, fun G hG => ?_⟩
      have nDG : D ≠ G := ne_of_none li2.hd hG
      refine lc_list (xs := outL ws x.name ws.length) (fun i G1 => G1 G = some (.lst (strL ((onN ws x.name).take i))) ∧ Same H'' G1) ⟨by rw [List.take_zero]; exact upd_same, Same.past (Same.refl _) hG⟩ (fun i G1 _ e => SqL.of (e.2 _ _ (sm _ _ (atL j x la ex ela)))) (fun i v G1 ev e => ?_) (fun G1 e => ?_)
      · obtain ⟨hG1, s1⟩ := e
        unfold outL at ev
        rw [List.getElem?_map] at ev
        obtain ⟨n, en, e0⟩ := Option.map_eq_some_iff.mp ev
        clear ev
        subst e0
        obtain ⟨nl, h2⟩ := outN_mem.mp (List.mem_of_getElem? en)
        obtain ⟨wr, ew, es⟩ := Option.map_eq_some_iff.mp h2
        have pl : n < ps.length := by
          rw [alL.len]
          exact nl
        obtain ⟨wr', ew', q, eq, hq⟩ := alL.get (List.getElem?_eq_getElem pl)
        rw [ew] at ew'
        cases ew'
        refine ⟨rfl, ?_⟩
        refine yes_ite ?_
        have il : i < (outN ws x.name ws.length).length := (List.getElem?_eq_some_iff.mp en).1
        have eg : (onN ws x.name)[i]? = some wr.goal := by
          unfold onN
          rw [List.getElem?_map, en, Option.map_some, goN_at ew]
        refine ⟨_, rfl, _, rfl, wl, _, _, _, rfl, rfl, SqL.of (s1 _ _ (sm _ _ wlL)), atI_nat (List.getElem?_eq_getElem pl), q, _, _, _, eq, rfl, Same.tup (sm.trans s1) hq, atI_nat (j := 1) rfl, _, hG1, ?_, ?_, Same.past s1 hG⟩
        · unfold strL
          rw [List.length_map, List.length_take]
          have := outN_len ws x.name ws.length
          have := ok.few
          exact Nat.lt_of_le_of_lt (show _ ≤ 48 by omega) (by decide)
        · rw [upd_same, List.take_succ, eg]
          unfold strL
          rw [List.map_append]
          rfl
      · obtain ⟨hG1, s1⟩ := e
        have ll : (outL ws x.name ws.length).length = (onN ws x.name).length := by
          unfold outL onN
          rw [List.length_map, List.length_map]
        rw [ll, List.take_length] at hG1
        have nk : nm.take (j + 1) = nm.take j ++ [x] := by
          rw [List.take_succ, ex]
          rfl
        refine ⟨_, Sum.inr x.name, rfl, s1 _ _ li2.hd, ?_, las2 ++ [G], ?_, Same.past (sm.trans s1) hD⟩
        · rw [dLead_len li2.len, List.length_take]
          exact Nat.lt_of_le_of_lt (show _ ≤ 24 by omega) (by decide)
        rw [putK_new (dLead_no (name_ahead ok.nms.nd ex)), nk]
        exact li2.snoc s1 (sm.free hG) hG hG1
    · obtain ⟨las2, li2, sm⟩ := e
      have dn : (dNamed nm).length = nm.length := by
        unfold dNamed
        rw [List.length_map]
      rw [dn, List.take_length] at li2
      refine ⟨sm _ _ hL, ?_⟩
      have u1 : Same H (upd H' d (.dK (dNamed nm))) := unlock hd (eHL ▸ sm)
      have li1 : Lists H (upd H' d (.dK (dNamed nm))) D nm las2 (fun x => strL (onN ws x.name)) := by
        refine li2.other (fun a => freeL) (by rw [upd_ne nDd]; exact li2.hd) fun i x a ex ea => ?_
        rw [upd_ne (fun z => by
          have := (li2.new a (List.mem_of_getElem? ea)).1
          rw [z, hL] at this
          cases this)]
        exact li2.at_ i x a ex ea
      have fD : H D = none := freeL hD
      generalize upd H' d (.dK (dNamed nm)) = H1 at u1 li1
      clear li2 sm
      -- the names of the inlets
      have hd1 := u1 _ _ hd
      have n1 := nodes.keep u1
      refine ⟨d, _, hd1, trivial, fun oe => ?_⟩
      have hM : (upd H1 d (.frz oe (.dK (dNamed nm)))) d = some (.frz oe (.dK (dNamed nm))) := upd_same
      have nodesM : ∀ x ∈ nm, NodeIn S x.adr x.inf (upd H1 d (.frz oe (.dK (dNamed nm)))) := fun x hx => (n1 x hx).dict hd1
      have freeM : ∀ {a : Addr}, (upd H1 d (.frz oe (.dK (dNamed nm)))) a = none → H1 a = none := fun {a} e => by
        by_cases z : a = d
        · rw [z, hM] at e
          cases e
        · rw [upd_ne z] at e
          exact e
      generalize eHM : upd H1 d (.frz oe (.dK (dNamed nm))) = HM at hM nodesM freeM
      refine ⟨_, rfl, d, oe, rfl, .inl ⟨_, hM, fun st hst => ?_⟩⟩
      have nsd : st ≠ d := (ne_of_none hM hst).symm
      refine lc_it (walk_keys (d := d) (o := oe) (kvs := dNamed nm)) (fun j H' => H' st = some (.lst (strL (startN (nm.take j)))) ∧ Same HM H') ⟨by rw [List.take_zero]; exact upd_same, Same.past (Same.refl _) hst⟩ (fun j H' _ e => e.2 _ _ hM) (fun j v H' H'' hj e y => ?_) (fun H2 e => ?_)
      · obtain ⟨hs1, sm⟩ := e
        obtain ⟨rfl, k, v', ek, rfl⟩ := y
        obtain ⟨x, ex, rfl, rfl⟩ := dNamed_get ek
        have xm : x ∈ nm := List.mem_of_getElem? ex
        obtain ⟨B, hB, hat, _, hinl⟩ := (nodesM x xm).keep sm
        obtain ⟨dx, fs, hin, _⟩ := S.ins B _ _ _ hat
        have isI := S.isI B hB
        rw [hinl] at isI
        have nk : startN (nm.take (j + 1)) = startN (nm.take j) ++ (if x.inf.inl = true then [x.name] else []) := by
          rw [List.take_succ, ex]
          unfold startN
          rw [List.filter_append, List.map_append]
          congr 1
          by_cases z : x.inf.inl = true
          · rw [if_pos z]
            show (List.filter _ [x]).map _ = _
            rw [List.filter_cons, if_pos z]
            rfl
          · rw [if_neg z]
            show (List.filter _ [x]).map _ = _
            rw [List.filter_cons, if_neg z]
            rfl
        refine ⟨rfl, ?_⟩
        refine ⟨_, rfl, _, rfl, d, _, rfl, .inl ⟨_, Sum.inr x.name, .inr ⟨oe, sm _ _ hM⟩, rfl, (valV_named ok.nms.nd xm).symm⟩, _, _, _, _, x.inf.inl, rfl, ClsV.own _, (S.isN B hB).ty (S.cls B hB) hin, isI, _, rfl, ?_⟩
        cases z : x.inf.inl with
        | true =>
          rw [z, if_pos rfl] at nk
          refine iteT ?_
          refine ⟨_, rfl, _, hs1, ?_, ?_, Same.past sm hst⟩
          · unfold strL startN
            rw [List.length_map, List.length_map]
            have h1 := List.length_filter_le (fun x : Nm => x.inf.inl) (nm.take j)
            rw [List.length_take] at h1
            exact Nat.lt_of_le_of_lt (show _ ≤ 24 by omega) (by decide)
          · rw [nk, upd_same]
            unfold strL
            rw [List.map_append]
            rfl
        | false =>
          rw [z, if_neg (by decide), List.append_nil] at nk
          refine iteF ?_
          rw [nk]
          exact ⟨hs1, sm⟩
      · obtain ⟨hs1, sm⟩ := e
        rw [dn, List.take_length] at hs1
        refine ⟨sm _ _ hM, ?_⟩
        have u2 : Same H1 (upd H2 d (.dK (dNamed nm))) := unlock hd1 (eHM ▸ sm)
        have hst2 : upd H2 d (.dK (dNamed nm)) st = some (.lst (strL (startN nm))) := by
          rw [upd_ne nsd]
          exact hs1
        generalize upd H2 d (.dK (dNamed nm)) = H3 at u2 hst2
        have snm : ∀ s ∈ startN nm, s ∈ nm.map Nm.name := fun s hs => by
          obtain ⟨y, hy, ey⟩ := List.mem_map.mp hs
          exact List.mem_map.mpr ⟨y, (List.mem_filter.mp hy).1, ey⟩
        refine ⟨_, rfl, H, st, D, startN nm, nm, las2, fun x => onN ws x.name, rfl, hst2, ?_, li1.keep u2, ok.nms, snm, fun x hx s hs => ?_, ?_⟩
        · have h0 : (startN nm).Nodup := List.Pairwise.sublist (List.Sublist.map _ List.filter_sublist) ok.nms.nd
          have := nodup_len h0 snm
          rw [List.length_map] at this
          have := ok.nms.few
          omega
        · obtain ⟨w', hw', _, e2⟩ := onN_in hs
          obtain ⟨y, hy, ey, _⟩ := ok.goal w' hw'
          exact List.mem_map.mpr ⟨y, hy, ey.trans e2⟩
        intro r rs H4 s4 fr hr4 c1 c2 c3 _
        have all := reach_all ok c1 c2
        have u4 := u1.trans (u2.trans s4)
        have hd4 := u4 _ _ hd
        -- none is left out
        refine ⟨d, _, hd4, trivial, fun og => ?_⟩
        have hG : (upd H4 d (.frz og (.dK (dNamed nm)))) d = some (.frz og (.dK (dNamed nm))) := upd_same
        have nrd : r ≠ d := fun z => by
          rw [z, (u1.trans u2) _ _ hd] at fr
          cases fr
        have rG : (upd H4 d (.frz og (.dK (dNamed nm)))) r = some (.dK (dReach rs)) := by
          rw [upd_ne nrd]
          exact hr4
        generalize eHG : upd H4 d (.frz og (.dK (dNamed nm))) = HG at hG rG
        refine ⟨_, rfl, d, og, rfl, .inl ⟨_, hG, ?_⟩⟩
        refine for_it (walk_keys (d := d) (o := og) (kvs := dNamed nm)) (fun j σ G => ∃ w5 : Option V, σ = [some (.ref d), some (.ref wl), some (.ref dl), some (.ref D), some (.ref r), w5, none] ∧ Same HG G) ⟨_, rfl, Same.refl _⟩ (fun j σ G _ e => by obtain ⟨_, _, sm⟩ := e; exact sm _ _ hG) ?_ ?_
        · rintro j v σ G G' hj ⟨w5, rfl, sG⟩ ⟨rfl, k, v', ek, rfl⟩
          obtain ⟨x, ex, rfl, rfl⟩ := dNamed_get ek
          have xm : x ∈ nm := List.mem_of_getElem? ex
          refine ⟨_, rfl, _, rfl, r, _, rfl, DGet.k (k := Sum.inr x.name) (sG _ _ rG), _, rfl, ?_⟩
          refine iteF_ (by rw [reach_in, decide_eq_true (all x xm)]; rfl) ?_
          exact ⟨_, rfl, sG⟩
        · rintro σ G ⟨w5, rfl, sG⟩
          exact ⟨sG _ _ hG, kk _ (u4.trans (unlock hd4 (eHG ▸ sG)))⟩
end
end Sw
namespace Sw
open PySem PySem.Spec PyProof.Rows L2
/-! ### a weave, as it stands -/
/-- the heap without one place -/
def wo (p : Addr) (H : Hp) : Hp := fun a => if a = p then none else H a
theorem wo_self {p : Addr} {H : Hp} : wo p H p = none := by
  unfold wo
  rw [if_pos rfl]
theorem wo_ne {p a : Addr} {H : Hp} (h : a ≠ p) : wo p H a = H a := by
  unfold wo
  rw [if_neg h]
theorem wo_same {p : Addr} {H : Hp} : Same (wo p H) H := fun b o h => by
  by_cases z : b = p
  · rw [z, wo_self] at h
    cases h
  · rw [wo_ne z] at h
    exact h
theorem wo_upd {p : Addr} {H : Hp} {o : HO} : Same (wo p H) (L2.upd H p o) := Same.past wo_same wo_self
theorem wo_mono {p : Addr} {H H1 : Hp} (s : Same H H1) : Same (wo p H) (wo p H1) := fun b o h => by
  by_cases z : b = p
  · rw [z, wo_self] at h
    cases h
  · rw [wo_ne z] at h ⊢
    exact s _ _ h
theorem Lists.wo {H0 H : Hp} {d p : Addr} {nm : List Nm} {las : List Addr} {L : Nm → List V} (li : Lists H0 H d nm las L) {o : HO} (hp : H0 p = some o) (hd : H0 d = Option.none) : Lists H0 (wo p H) d nm las L := ⟨by rw [wo_ne (fun z => by rw [z, hp] at hd; cases hd)]; exact li.hd, li.len, li.nd, li.new, fun i x la e1 e2 => by
  rw [wo_ne (fun z => by
    have := (li.new la (List.mem_of_getElem? e2)).1
    rw [z, hp] at this
    cases this)]
  exact li.at_ i x la e1 e2⟩
theorem same_wo {p : Addr} {H0 H : Hp} (s : Same H0 H) (h : H0 p = none) : Same H0 (wo p H) := fun b o e => by
  by_cases z : b = p
  · rw [z, h] at e
    cases e
  · rw [wo_ne z]
    exact s _ _ e
theorem wo_tup {K : PySem.W.Frag} {p q C dx : Addr} {H : Hp} {fs : List (Str × V)} {xs : List V} (hp : H p = some (.ins C dx fs)) (h : SqT K H q xs) : SqT K (wo p H) q xs := by
  rcases h with (h | ⟨o, h⟩) | h
  · exact .inl (.inl (by rw [wo_ne (fun z => by rw [z, hp] at h; cases h)]; exact h))
  · exact .inl (.inr ⟨o, by rw [wo_ne (fun z => by rw [z, hp] at h; cases h)]; exact h⟩)
  · exact .inr h
theorem Lists.any {H0 H : Hp} {d : Addr} {nm : List Nm} {las : List Addr} {L : Nm → List V} (li : Lists H0 H d nm las L) : Lists (fun _ => Option.none) H d nm las L := ⟨li.hd, li.len, li.nd, fun a h => ⟨rfl, (li.new a h).2⟩, li.at_⟩
theorem putW1 (d : V) : putF "named" d [] = ([("named", d)] : List (Str × V)) := rfl
theorem putW2 (d e : V) : putF "leading" e ([("named", d)] : List (Str × V)) = ([("named", d), ("leading", e)] : List (Str × V)) := by
  unfold putF
  rw [if_neg (by decide +kernel)]
  rfl
theorem putW3 (d e f : V) : putF "laid" f ([("named", d), ("leading", e)] : List (Str × V)) = ([("named", d), ("leading", e), ("laid", f)] : List (Str × V)) := by
  unfold putF
  rw [if_neg (by decide +kernel)]
  unfold putF
  rw [if_neg (by decide +kernel)]
  rfl
theorem putW4 (d e f g : V) : putF "leaving" g ([("named", d), ("leading", e), ("laid", f)] : List (Str × V)) = ([("named", d), ("leading", e), ("laid", f), ("leaving", g)] : List (Str × V)) := by
  unfold putF
  rw [if_neg (by decide +kernel)]
  unfold putF
  rw [if_neg (by decide +kernel)]
  unfold putF
  rw [if_neg (by decide +kernel)]
  rfl
structure WvF (K : PySem.W.Frag) {CN CO CI : Addr} (S : Sorts K CN CO CI) (H : Hp) (d dl ld dv : Addr) (nm : List Nm) (ws : List Wr) : Prop where
  named : H d = some (.dK (dNamed nm))
  lead : ∃ las, Lists (fun _ => none) H dl nm las (fun x => leadL ws x.name x.inf.ts.length)
  laid : WiresAt K H ld ws
  leav : ∃ las, Lists (fun _ => none) H dv nm las (fun x => outL ws x.name ws.length)
  nodes : Nodes S nm H
def wvF (d dl ld dv : Addr) : List (Str × V) := [("named", .ref d), ("leading", .ref dl), ("laid", .ref ld), ("leaving", .ref dv)]
def WvAt (K : PySem.W.Frag) {CN CO CI : Addr} (S : Sorts K CN CO CI) (CW : Addr) (H : Hp) (p : Addr) (nm : List Nm) (ws : List Wr) : Prop := ∃ dx d dl ld dv, H p = some (.ins CW dx (wvF d dl ld dv)) ∧ WvF K S H d dl ld dv nm ws
theorem Lists.base {G0 H0 H : Hp} {d : Addr} {nm : List Nm} {las : List Addr} {L : Nm → List V} (li : Lists G0 H d nm las L) (s : Same H0 G0) : Lists H0 H d nm las L := ⟨li.hd, li.len, li.nd, fun a h => ⟨s.free (li.new a h).1, (li.new a h).2⟩, li.at_⟩
/-- the places of a weave are new ones -/
def WvAtN (K : PySem.W.Frag) {CN CO CI : Addr} (S : Sorts K CN CO CI) (CW : Addr) (H0 H : Hp) (p : Addr) (nm : List Nm) (ws : List Wr) : Prop := ∃ dx d dl ld dv, H p = some (.ins CW dx (wvF d dl ld dv)) ∧ WvF K S H d dl ld dv nm ws ∧ H0 d = none ∧ H0 dl = none ∧ H0 ld = none ∧ H0 dv = none ∧
  (∃ las, Lists H0 H dl nm las (fun x => leadL ws x.name x.inf.ts.length)) ∧ (∃ las, Lists H0 H dv nm las (fun x => outL ws x.name ws.length))
theorem WvAtN.at {K : PySem.W.Frag} {CN CO CI CW : Addr} {S : Sorts K CN CO CI} {H0 H : Hp} {p : Addr} {nm : List Nm} {ws : List Wr} (h : WvAtN K S CW H0 H p nm ws) : WvAt K S CW H p nm ws := by
  obtain ⟨dx, d, dl, ld, dv, hp, h, _⟩ := h
  exact ⟨dx, d, dl, ld, dv, hp, h⟩
def spWvInit (K : PySem.W.Frag) {CN CO CI : Addr} (S : Sorts K CN CO CI) (CW : Addr) : Sp := fun vs H Q _ => ∃ (H0 : Hp) (p dx nl wl : Addr) (nm : List Nm) (ws : List Wr), vs = [.ref p, .ref nl, .ref wl] ∧ Same H0 H ∧ H0 p = none ∧ H p = some (.ins CW dx []) ∧ PairsAt K H0 nl nm ∧ WiresAt K H0 wl ws ∧ WvOk nm ws ∧ Nodes S nm H0 ∧ ∀ H', Same H0 H' → WvAtN K S CW H0 H' p nm ws → Q .non H'
section
variable {P : Program} {w : World} {K : PySem.W.Frag} {mg : Str → Option Value} {base : Heap} {f f1 f2 f3 f4 f5 f6 f7 f8 f9 C CN CO CI CW : Addr} {fd fd1 fd2 fd3 fd4 fd5 fd6 fd7 fd8 fd9 : FuncData}
abbrev nWeaveInit : List Str := ["self", "nodes", "wires", "source", "goal", "place", "delay"]
theorem scWeaveInit : FnScope nWeaveInit ["self", "nodes", "wires"] (defScope sWeaveInit) := ⟨rfl, rfl, rfl, by decide +kernel, rfl, by decide +kernel, by decide +kernel⟩
theorem ok_wvInit (S : Sorts K CN CO CI) (F : FnM K "__init__" "Weave.__init__" sWeaveInit f fd) (GNa : FnOk P w K mg base CX0 2 f1 fd1 ["nodes"] (spNamed S)) (gNa : mg "nodes_by_name" = some (.ref f1)) (kNa : PySem.W.keepIn K (.ref f1) = true) (bNa : Binds K fd1 ["nodes"] [])
    (GLe : FnOk P w K mg base CX0 4 f2 fd2 ["wires", "named"] (spLead S)) (gLe : mg "wires_by_goal" = some (.ref f2)) (kLe : PySem.W.keepIn K (.ref f2) = true) (bLe : Binds K fd2 ["wires", "named"] [])
    (GBa : FnOk P w K mg base CX0 1 f3 fd3 ["leading"] spBare) (gBa : mg "refuse_bare" = some (.ref f3)) (kBa : PySem.W.keepIn K (.ref f3) = true) (bBa : Binds K fd3 ["leading"] [])
    (GLv : FnOk P w K mg base CX0 1 f4 fd4 ["wires", "named"] (spLeav K)) (gLv : mg "wires_by_source" = some (.ref f4)) (kLv : PySem.W.keepIn K (.ref f4) = true) (bLv : Binds K fd4 ["wires", "named"] [])
    (GUn : FnOk P w K mg base CX0 2 f5 fd5 ["named", "wires", "leaving"] (spUnfed S)) (gUn : mg "refuse_unfed" = some (.ref f5)) (kUn : PySem.W.keepIn K (.ref f5) = true) (bUn : Binds K fd5 ["named", "wires", "leaving"] [])
    (gMN : ∃ t, mg "MOST_NODES" = some (.int 24 t)) (gMW : ∃ t, mg "MOST_WIRES" = some (.int 48 t)) (gLen : mg "len" = none) (cW : Cls K CW) (n1 : NoAttr K CW "named") (n2 : NoAttr K CW "leading") (n3 : NoAttr K CW "laid") (n4 : NoAttr K CW "leaving") : FnOk P w K mg base CX0 5 f fd ["self", "nodes", "wires"] (spWvInit K S CW) := by
  obtain ⟨tN, gMN⟩ := gMN
  obtain ⟨tW, gMW⟩ := gMW
  refine F.ok scWeaveInit (fun vs H Q E h => ?_) (fun cdv A outer s H vs Q E hr h => ?_)
  · obtain ⟨H0, p, dx, nl, wl, nm, ws, rfl, _⟩ := h
    rfl
  · obtain ⟨H0, p, dx, nl, wl, nm, ws, rfl, s0, p0, hp, ⟨ns, hnl, aln⟩, ⟨ps, hwl, al⟩, ok, nodes, kk⟩ := h
    have hu := hu_of hr
    have hr4 : Room 4 _ := hr
    have hrN : Room 2 _ := hr.mono (by decide)
    have hr2 : Room 2 _ := hr.mono (by decide)
    have hr1 : Room 1 _ := hr.mono (by decide)
    have nd := scWeaveInit.nd
    have few := ok.nms.few
    have fewW := ok.few
    refine ⟨_, PSs.nox (pss_cons (ps_if (PW.pt (pw_or (pt_cmpR op_gt (pe_callB call_len_seq (by rfl) gLen PySem.boot_len (pa_cons (pv 1) pa_nil)) (pe_glob (v := .int 24) rfl gMN ⟨_, rfl⟩) (nomark _)) (pw_or1 (pt_cmpR op_gt (pe_callB call_len_seq (by rfl) gLen PySem.boot_len (pa_cons (pv 2) pa_nil)) (pe_glob (v := .int 48) rfl gMW ⟨_, rfl⟩) (nomark _))))) pss_never pss_nil)
      (pss_cons (ps_fld (pv 0) (pe_call GNa hrN rfl gNa kNa bNa .nil pass0 (pa_cons (pv 1) pa_nil)) rfl)
      (pss_cons (ps_fld (pv 0) (pe_call GLe hr4 rfl gLe kLe bLe .nil pass0 (pa_cons (pv 2) (pa_cons (pe_fld (pv 0) rfl) pa_nil))) rfl)
      (pss_cons (ps_expr (pe_call GBa hr1 rfl gBa kBa bBa .nil pass0 (pa_cons (pe_fld (pv 0) rfl) pa_nil)))
      (pss_cons (ps_fld (pv 0) (pe_lc (own := [("source", 3), ("goal", 4), ("place", 5), ("delay", 6)]) (g := (gTup K 4 (gCons (gName 3) (gCons (gName 4) (gCons (gName 5) (gCons (gName 6) gNil)))))) (tt := tYes) rfl nd (pi_list (pv 2)) (blkOk_by (N := nWeaveInit) (sc := defScope sWeaveInit) (by decide +kernel))
        (fun _ _ _ _ _ => (pg_tup rfl (pgs_cons (pg_name (i := 3) nd rfl (Or.inl rfl)) (pgs_cons (pg_name (i := 4) nd rfl (Or.inl rfl)) (pgs_cons (pg_name (i := 5) nd rfl (Or.inl rfl)) (pgs_cons (pg_name (i := 6) nd rfl (Or.inl rfl)) pgs_nil)))))) (fun _ _ _ _ _ => pts_nil) (fun _ _ _ _ _ => (pe_tup (pa_cons (pv 3) (pa_cons (pv 4) (pa_cons (pv 5) (pa_cons (pv 6) pa_nil))))))) rfl)
      (pss_cons (ps_fld (pv 0) (pe_call GLv hr1 rfl gLv kLv bLv .nil pass0 (pa_cons (pe_fld (pv 0) rfl) (pa_cons (pe_fld (pv 0) rfl) pa_nil))) rfl)
      (pss_one (ps_expr (pe_call GUn hr2 rfl gUn kUn bUn .nil pass0 (pa_cons (pe_fld (pv 0) rfl) (pa_cons (pe_fld (pv 0) rfl) (pa_cons (pe_fld (pv 0) rfl) pa_nil)))))))))))), ?_⟩
    have pN : (H0 p = none) := p0
    have nnl : ns.length = nm.length := aln.len
    have nwl : ps.length = ws.length := al.len
    refine ⟨_, rfl, nl, _, rfl, .inl (SqL.of (s0 _ _ hnl)), _, _, rfl, rfl, ?_⟩
    refine ⟨_, rfl, iteF_ (decide_eq_false (by omega)) ?_⟩
    refine ⟨_, rfl, wl, _, rfl, .inl (SqL.of (s0 _ _ hwl)), _, _, rfl, rfl, ?_⟩
    refine ⟨_, rfl, iteF_ (decide_eq_false (by omega)) ?_⟩
    have hws : WiresAt K H0 wl ws := ⟨ps, hwl, al⟩
    -- the nodes by their names
    refine ⟨_, rfl, nl, nm, rfl, PairsAt.keep ⟨ns, hnl, aln⟩ s0, ok.nms, nodes.keep s0, fun d H1 s1 fd hd1 => ?_⟩
    refine ⟨_, rfl, p, CW, dx, _, rfl, s1 _ _ hp, cW, n1, (by show 0 < 1000; decide), ?_⟩
    rw [putW1]
    have ndp : d ≠ p := (ne_of_none hp fd).symm
    have b1 : Same H0 (wo p H1) := same_wo (s0.trans s1) p0
    have w1 : wo p H1 d = some (.dK (dNamed nm)) := by rw [wo_ne ndp]; exact hd1
    have q1 : wo p H1 p = none := wo_self
    have u1 : Same (wo p H1) (upd H1 p (.ins CW dx [("named", .ref d)])) := wo_upd
    have hp1 : upd H1 p (.ins CW dx [("named", .ref d)]) p = some (.ins CW dx [("named", .ref d)]) := upd_same
    generalize upd H1 p (.ins CW dx [("named", .ref d)]) = G1 at u1 hp1
    generalize wo p H1 = W1 at b1 w1 q1 u1
    -- the wires by their goals
    refine ⟨_, rfl, _, rfl, p, CW, dx, _, _, rfl, hp1, cW, n1, rfl, wl, d, nm, ws, rfl, hws.keep (b1.trans u1), u1 _ _ w1, ok, nodes.keep (b1.trans u1), fun dl las H2 s2 fdl li => ?_⟩
    refine ⟨_, rfl, p, CW, dx, _, rfl, s2 _ _ hp1, cW, n2, (by show 1 < 1000; decide), ?_⟩
    rw [putW2]
    have b2 : Same W1 (wo p H2) := same_wo (u1.trans s2) q1
    have li2 : Lists G1 (wo p H2) dl nm las _ := li.wo hp1 fdl
    have q2 : wo p H2 p = none := wo_self
    have u2 : Same (wo p H2) (upd H2 p (.ins CW dx [("named", .ref d), ("leading", .ref dl)])) := wo_upd
    have hp2 : upd H2 p (.ins CW dx [("named", .ref d), ("leading", .ref dl)]) p = some (.ins CW dx [("named", .ref d), ("leading", .ref dl)]) := upd_same
    generalize upd H2 p (.ins CW dx [("named", .ref d), ("leading", .ref dl)]) = G2 at u2 hp2
    generalize wo p H2 = W2 at b2 li2 q2 u2
    -- none is bare
    refine ⟨_, rfl, p, CW, dx, _, _, rfl, hp2, cW, n2, rfl, G1, dl, nm, las, ws, rfl, li2.keep u2, ok, fun H3 s3 => ?_⟩
    have hp3 := s3 _ _ hp2
    have t3 : Same H0 H3 := b1.trans (b2.trans (u2.trans s3))
    -- the wires, laid
    refine ⟨_, rfl, wl, rfl, ⟨_, SqL.of (t3 _ _ hwl)⟩, fun ld hld => ?_⟩
    have nld : ld ≠ p := (ne_of_none hp3 hld).symm
    refine lc_list (xs := ps) (fun j H' => (∃ qs, H' ld = some (.lst qs) ∧ Al (WireAt K H') qs (ws.take j)) ∧ Same H3 H') ⟨⟨[], upd_same, by rw [List.take_zero]; exact trivial⟩, Same.past (Same.refl _) hld⟩ (fun j H' _ e => SqL.of (e.2 _ _ (t3 _ _ hwl))) (fun j v H' ev e => ?_) (fun H4 e => ?_)
    · obtain ⟨⟨qs, hq0, alq⟩, sm⟩ := e
      obtain ⟨wr, ew, q, rfl, hq⟩ := al.get ev
      have jl := (List.getElem?_eq_some_iff.mp ew).1
      refine ⟨q, _, rfl, Same.tup (t3.trans sm) hq, rfl, _, _, rfl, _, _, rfl, _, _, rfl, _, _, rfl, rfl, rfl, ?_⟩
      refine yes_ite ?_
      refine ⟨_, rfl, _, rfl, _, rfl, _, rfl, (by show 4 ≤ sizeLine; decide), fun t ht => ?_⟩
      have sT := Same.new (o := .tup [V.str wr.src, .str wr.goal, .int (wr.place : Int), .int (wr.delay : Int)]) (Same.refl H') ht
      have nlt : ld ≠ t := ne_of_none hq0 ht
      refine ⟨_, sT _ _ hq0, ?_, ⟨_, upd_same, ?_⟩, Same.past (sm.trans sT) hld⟩
      · rw [alq.len, List.length_take]
        exact Nat.lt_of_le_of_lt (show _ ≤ 48 by omega) (by decide)
      · rw [List.take_succ, ew]
        refine Al.snoc ⟨t, rfl, .inl (.inl ?_)⟩ (alq.imp fun pp x ⟨q', e, h⟩ => ⟨q', e, ?_⟩)
        · rw [upd_ne nlt.symm]
          exact upd_same
        · have h1 := Same.tup sT h
          rcases h1 with (h1 | ⟨o, h1⟩) | h1
          · exact .inl (.inl (by rw [upd_ne (fun z => by rw [z, sT _ _ hq0] at h1; cases h1)]; exact h1))
          · exact .inl (.inr ⟨o, by rw [upd_ne (fun z => by rw [z, sT _ _ hq0] at h1; cases h1)]; exact h1⟩)
          · exact .inr h1
    · obtain ⟨⟨qs, hq0, alq⟩, s4⟩ := e
      rw [nwl, List.take_length] at alq
      refine ⟨_, rfl, p, CW, dx, _, rfl, s4 _ _ hp3, cW, n3, (by show 2 < 1000; decide), ?_⟩
      rw [putW3]
      have b4 : Same W2 (wo p H4) := same_wo (u2.trans (s3.trans s4)) q2
      have wl4 : WiresAt K (wo p H4) ld ws := ⟨qs, by rw [wo_ne nld]; exact hq0, alq.imp fun pp x ⟨q', e, h⟩ => ⟨q', e, wo_tup (s4 _ _ hp3) h⟩⟩
      have q4 : wo p H4 p = none := wo_self
      have u4 : Same (wo p H4) (upd H4 p (.ins CW dx [("named", .ref d), ("leading", .ref dl), ("laid", .ref ld)])) := wo_upd
      have hp4 : upd H4 p (.ins CW dx [("named", .ref d), ("leading", .ref dl), ("laid", .ref ld)]) p = some (.ins CW dx [("named", .ref d), ("leading", .ref dl), ("laid", .ref ld)]) := upd_same
      generalize upd H4 p (.ins CW dx [("named", .ref d), ("leading", .ref dl), ("laid", .ref ld)]) = G4 at u4 hp4
      generalize wo p H4 = W4 at b4 wl4 q4 u4
      have w4 := (b2.trans b4) _ _ w1
      -- the wires by their sources
      refine ⟨_, rfl, p, CW, dx, _, _, rfl, hp4, cW, n3, rfl, _, rfl, p, CW, dx, _, _, rfl, hp4, cW, n1, rfl, ld, d, nm, ws, rfl, wl4.keep u4, u4 _ _ w4, ok, fun dv las2 H5 s5 fdv liv => ?_⟩
      refine ⟨_, rfl, p, CW, dx, _, rfl, s5 _ _ hp4, cW, n4, (by show 3 < 1000; decide), ?_⟩
      rw [putW4, show ([("named", .ref d), ("leading", .ref dl), ("laid", .ref ld), ("leaving", .ref dv)] : List (Str × V)) = wvF d dl ld dv from rfl]
      have ndv : dv ≠ d := (ne_of_none (u4 _ _ w4) fdv).symm
      have b5 : Same W4 (wo p H5) := same_wo (u4.trans s5) q4
      have li5 : Lists G4 (wo p H5) dv nm las2 _ := liv.wo hp4 fdv
      have u5 : Same (wo p H5) (upd H5 p (.ins CW dx (wvF d dl ld dv))) := wo_upd
      have hp5 : upd H5 p (.ins CW dx (wvF d dl ld dv)) p = some (.ins CW dx (wvF d dl ld dv)) := upd_same
      generalize upd H5 p (.ins CW dx (wvF d dl ld dv)) = G5 at u5 hp5
      generalize wo p H5 = W5 at b5 li5 u5
      have w5 := b5 _ _ w4
      have t5 : Same H0 G5 := b1.trans (b2.trans (b4.trans (b5.trans u5)))
      -- all is fed
      refine ⟨_, rfl, p, CW, dx, _, _, rfl, hp5, cW, n1, rfl, _, rfl, p, CW, dx, _, _, rfl, hp5, cW, n3, rfl, _, rfl, p, CW, dx, _, _, rfl, hp5, cW, n4, rfl, G4, d, ld, dv, nm, las2, ws, rfl, ndv, u5 _ _ w5, (wl4.keep b5).keep u5, li5.keep u5, ok, nodes.keep t5, fun H6 s6 => ?_⟩
      have l1 := (li2.keep (b4.trans (b5.trans (u5.trans s6))))
      have l2 := (li5.keep (u5.trans s6))
      have fd0 : H0 d = none := s0.free fd
      have t1 : Same H0 G1 := b1.trans u1
      have t4 : Same H0 G4 := b1.trans (b2.trans (b4.trans u4))
      exact kk H6 (t5.trans s6) ⟨dx, d, dl, ld, dv, s6 _ _ hp5, ⟨(u5.trans s6) _ _ w5, ⟨las, l1.any⟩, wl4.keep (b5.trans (u5.trans s6)), ⟨las2, l2.any⟩, nodes.keep (t5.trans s6)⟩, fd0, t1.free fdl, t3.free hld, t4.free fdv, ⟨las, l1.base t1⟩, ⟨las2, l2.base t4⟩⟩
end
end Sw
namespace Sw
open PySem PySem.Spec PyProof.Rows L2
/-! ### what a weave tells -/
theorem WvF.keep {K : PySem.W.Frag} {CN CO CI : Addr} {S : Sorts K CN CO CI} {H H1 : Hp} {d dl ld dv : Addr} {nm : List Nm} {ws : List Wr} (h : WvF K S H d dl ld dv nm ws) (s : Same H H1) : WvF K S H1 d dl ld dv nm ws := by
  obtain ⟨a, ⟨l1, b⟩, c, ⟨l2, e⟩, f⟩ := h
  exact ⟨s _ _ a, ⟨l1, b.keep s⟩, c.keep s, ⟨l2, e.keep s⟩, f.keep s⟩
theorem WvAt.keep {K : PySem.W.Frag} {CN CO CI CW : Addr} {S : Sorts K CN CO CI} {H H1 : Hp} {p : Addr} {nm : List Nm} {ws : List Wr} (h : WvAt K S CW H p nm ws) (s : Same H H1) : WvAt K S CW H1 p nm ws := by
  obtain ⟨dx, d, dl, ld, dv, hp, h⟩ := h
  exact ⟨dx, d, dl, ld, dv, s _ _ hp, h.keep s⟩
def namesN (nm : List Nm) (f : Nm → Bool) : List Str := (nm.filter f).map Nm.name
theorem namesN_snoc {nm : List Nm} {j : Nat} {x : Nm} (f : Nm → Bool) (ex : nm[j]? = some x) : namesN (nm.take (j + 1)) f = namesN (nm.take j) f ++ (if f x = true then [x.name] else []) := by
  unfold namesN
  rw [List.take_succ, ex, List.filter_append, List.map_append]
  congr 1
  by_cases z : f x = true
  · rw [if_pos z]
    show (List.filter _ [x]).map _ = _
    rw [List.filter_cons, if_pos z]
    rfl
  · rw [if_neg z]
    show (List.filter _ [x]).map _ = _
    rw [List.filter_cons, if_neg z]
    rfl
theorem namesN_len {nm : List Nm} (f : Nm → Bool) {j : Nat} (few : nm.length ≤ 24) : (strL (namesN (nm.take j) f)).length ≤ 24 := by
  unfold strL namesN
  rw [List.length_map, List.length_map]
  have h1 := List.length_filter_le f (nm.take j)
  rw [List.length_take] at h1
  omega
structure WvC (K : PySem.W.Frag) (CW : Addr) : Prop where
  cl : Cls K CW
  n1 : NoAttr K CW "named"
  n2 : NoAttr K CW "leading"
  n3 : NoAttr K CW "laid"
  n4 : NoAttr K CW "leaving"
def spWvNames (K : PySem.W.Frag) {CN CO CI : Addr} (S : Sorts K CN CO CI) (CW : Addr) (f : Nm → Bool) : Sp := fun vs H Q _ => ∃ (p : Addr) (nm : List Nm) (ws : List Wr), vs = [.ref p] ∧ WvAt K S CW H p nm ws ∧ NmsOk nm ∧ ∀ l H', Same H H' → H l = none → H' l = some (.lst (strL (namesN nm f))) → Q (.ref l) H'
def spWvWires (K : PySem.W.Frag) {CN CO CI : Addr} (S : Sorts K CN CO CI) (CW : Addr) : Sp := fun vs H Q _ => ∃ (p : Addr) (nm : List Nm) (ws : List Wr), vs = [.ref p] ∧ WvAt K S CW H p nm ws ∧ ∀ l H', Same H H' → H l = none → WiresAt K H' l ws → Q (.ref l) H'
def spWvLen (K : PySem.W.Frag) {CN CO CI : Addr} (S : Sorts K CN CO CI) (CW : Addr) : Sp := fun vs H Q _ => ∃ (p : Addr) (nm : List Nm) (ws : List Wr), vs = [.ref p] ∧ WvAt K S CW H p nm ws ∧ NmsOk nm ∧ Q (.int (nm.length : Int)) H
def spWvKnown (K : PySem.W.Frag) {CN CO CI : Addr} (S : Sorts K CN CO CI) (CW : Addr) : Sp := fun vs H Q _ => ∃ (p : Addr) (nm : List Nm) (ws : List Wr) (x : Nm), vs = [.ref p, .str x.name] ∧ WvAt K S CW H p nm ws ∧ NmsOk nm ∧ x ∈ nm ∧ Q .non H
def spWvNode (K : PySem.W.Frag) {CN CO CI : Addr} (S : Sorts K CN CO CI) (CW : Addr) : Sp := fun vs H Q _ => ∃ (p : Addr) (nm : List Nm) (ws : List Wr) (x : Nm), vs = [.ref p, .str x.name] ∧ WvAt K S CW H p nm ws ∧ NmsOk nm ∧ x ∈ nm ∧ Q (.ref x.adr) H
section
variable {P : Program} {w : World} {K : PySem.W.Frag} {mg : Str → Option Value} {base : Heap} {f f1 f2 f3 f4 f5 f6 f7 f8 f9 C CN CO CI CW : Addr} {fd fd1 fd2 fd3 fd4 fd5 fd6 fd7 fd8 fd9 : FuncData}
abbrev nWeaveWires : List Str := ["self"]
theorem scWeaveWires : FnScope nWeaveWires ["self"] (defScope sWeaveWires) := ⟨rfl, rfl, rfl, by decide +kernel, rfl, by decide +kernel, by decide +kernel⟩
theorem ok_wvWires (S : Sorts K CN CO CI) (F : FnM K "wires" "Weave.wires" sWeaveWires f fd) (T : WvC K CW) (gList : mg "list" = none) : FnOk P w K mg base CX0 1 f fd ["self"] (spWvWires K S CW) := by
  refine F.ok scWeaveWires (fun vs H Q E h => ?_) (fun cdv A outer s H vs Q E hr h => ?_)
  · obtain ⟨p, nm, ws, rfl, _⟩ := h
    rfl
  · obtain ⟨p, nm, ws, rfl, ⟨dx, d, dl, ld, dv, hp, wf⟩, kk⟩ := h
    have hu := hu_of hr
    have nd := scWeaveWires.nd
    obtain ⟨ps, hl, al⟩ := wf.laid
    refine ⟨_, PSs.nox (pss_one (ps_ret (pe_callTy (call_list_ofK (K := K) rfl) (by rfl) gList PyProof.Rows.boot_list (pa_cons (pe_fld (pv 0) rfl) pa_nil)))), ?_⟩
    refine ⟨_, rfl, p, CW, dx, _, _, rfl, hp, T.cl, T.n3, rfl, ld, _, rfl, .inl (SqL.of hl), fun l hn => ?_⟩
    have sN := Same.new (o := .lst ps) (Same.refl H) hn
    exact kk l _ sN hn ⟨ps, upd_same, al.imp fun pp x ⟨q, e, h⟩ => ⟨q, e, Same.tup sN h⟩⟩
abbrev nWeaveCheckKnown : List Str := ["self", "name"]
theorem scWeaveCheckKnown : FnScope nWeaveCheckKnown ["self", "name"] (defScope sWeaveCheckKnown) := ⟨rfl, rfl, rfl, by decide +kernel, rfl, by decide +kernel, by decide +kernel⟩
theorem ok_wvKnown (S : Sorts K CN CO CI) (F : FnM K "check_known" "Weave.check_known" sWeaveCheckKnown f fd) (T : WvC K CW) (GOn : FnOk P w K mg base CX0 1 f1 fd1 ["thing", "names"] spOneOf) (gOn : mg "is_one_of" = some (.ref f1)) (kOn : PySem.W.keepIn K (.ref f1) = true) (bOn : Binds K fd1 ["thing", "names"] []) : FnOk P w K mg base CX0 2 f fd ["self", "name"] (spWvKnown K S CW) := by
  refine F.ok scWeaveCheckKnown (fun vs H Q E h => ?_) (fun cdv A outer s H vs Q E hr h => ?_)
  · obtain ⟨p, nm, ws, x, rfl, _⟩ := h
    rfl
  · obtain ⟨p, nm, ws, x, rfl, ⟨dx, d, dl, ld, dv, hp, wf⟩, nok, xm, kk⟩ := h
    have hu := hu_of hr
    have nd := scWeaveCheckKnown.nd
    refine ⟨_, PSs.nox (pss_one (ps_if (pt_not (pt_val (pe_call GOn hr rfl gOn kOn bOn .nil pass0 (pa_cons (pv 1) (pa_cons (pe_fld (pv 0) rfl) pa_nil))))) pss_never pss_nil)), ?_⟩
    refine ⟨_, rfl, _, rfl, p, CW, dx, _, _, rfl, hp, T.cl, T.n1, rfl, x.name, d, _, rfl, .inl wf.named, ?_⟩
    rw [valV_named nok.nd xm]
    exact ⟨_, rfl, iteF kk⟩
abbrev nWeaveNames : List Str := ["self"]
theorem scWeaveNames : FnScope nWeaveNames ["self"] (defScope sWeaveNames) := ⟨rfl, rfl, rfl, by decide +kernel, rfl, by decide +kernel, by decide +kernel⟩
theorem ok_wvNames (S : Sorts K CN CO CI) (F : FnM K "names" "Weave.names" sWeaveNames f fd) (T : WvC K CW) (gList : mg "list" = none) : FnOk P w K mg base CX0 1 f fd ["self"] (spWvNames K S CW (fun _ => true)) := by
  refine F.ok scWeaveNames (fun vs H Q E h => ?_) (fun cdv A outer s H vs Q E hr h => ?_)
  · obtain ⟨p, nm, ws, rfl, _⟩ := h
    rfl
  · obtain ⟨p, nm, ws, rfl, ⟨dx, d, dl, ld, dv, hp, wf⟩, nok, kk⟩ := h
    have hu := hu_of hr
    have nd := scWeaveNames.nd
    refine ⟨_, PSs.nox (pss_one (ps_ret (pe_callTy (call_listD rfl) (by rfl) gList PyProof.Rows.boot_list (pa_cons (pe_fld (pv 0) rfl) pa_nil)))), ?_⟩
    refine ⟨_, rfl, p, CW, dx, _, _, rfl, hp, T.cl, T.n1, rfl, d, _, rfl, .inl wf.named, fun l hn => ?_⟩
    have e : (dNamed nm).map (fun kv => kV kv.1) = strL (namesN nm (fun _ => true)) := by
      unfold dNamed strL namesN
      rw [List.map_map, List.map_map, List.filter_eq_self.mpr (fun _ _ => rfl)]
      rfl
    rw [e]
    exact kk l _ (Same.new (Same.refl H) hn) hn upd_same
abbrev nWeaveLen : List Str := ["self"]
theorem scWeaveLen : FnScope nWeaveLen ["self"] (defScope sWeaveLen) := ⟨rfl, rfl, rfl, by decide +kernel, rfl, by decide +kernel, by decide +kernel⟩
theorem ok_wvLen (S : Sorts K CN CO CI) (F : FnM K "__len__" "Weave.__len__" sWeaveLen f fd) (T : WvC K CW) (gLen : mg "len" = none) : FnOk P w K mg base CX0 1 f fd ["self"] (spWvLen K S CW) := by
  refine F.ok scWeaveLen (fun vs H Q E h => ?_) (fun cdv A outer s H vs Q E hr h => ?_)
  · obtain ⟨p, nm, ws, rfl, _⟩ := h
    rfl
  · obtain ⟨p, nm, ws, rfl, ⟨dx, d, dl, ld, dv, hp, wf⟩, nok, kk⟩ := h
    have hu := hu_of hr
    have nd := scWeaveLen.nd
    refine ⟨_, PSs.nox (pss_one (ps_ret (pe_callB call_lenD (by rfl) gLen PySem.boot_len (pa_cons (pe_fld (pv 0) rfl) pa_nil)))), ?_⟩
    refine ⟨_, rfl, p, CW, dx, _, _, rfl, hp, T.cl, T.n1, rfl, d, _, rfl, wf.named, ?_⟩
    rw [show (dNamed nm).length = nm.length by unfold dNamed; rw [List.length_map]]
    exact kk
end
end Sw
namespace Sw
open PySem PySem.Spec PyProof.Rows L2
def spWvPairs (K : PySem.W.Frag) {CN CO CI : Addr} (S : Sorts K CN CO CI) (CW : Addr) : Sp := fun vs H Q _ => ∃ (p : Addr) (nm : List Nm) (ws : List Wr), vs = [.ref p] ∧ WvAt K S CW H p nm ws ∧ NmsOk nm ∧ ∀ l H', Same H H' → H l = none → PairsAt K H' l nm → Q (.ref l) H'
theorem pair_upd {K : PySem.W.Frag} {H : Hp} {l : Addr} {ys zs : List V} {pp : V} {x : Nm} (hl : H l = some (.lst ys)) (h : PairAt K H pp x) : PairAt K (L2.upd H l (.lst zs)) pp x := by
  obtain ⟨q, e, h1⟩ := h
  refine ⟨q, e, ?_⟩
  rcases h1 with (h1 | ⟨o, h1⟩) | h1
  · exact .inl (.inl (by rw [upd_ne (fun z => by rw [z, hl] at h1; cases h1)]; exact h1))
  · exact .inl (.inr ⟨o, by rw [upd_ne (fun z => by rw [z, hl] at h1; cases h1)]; exact h1⟩)
  · exact .inr h1
theorem pair_unl {K : PySem.W.Frag} {H : Hp} {d : Addr} {od : Obj} {u : HO} {pp : V} {x : Nm} {kvs : List (Key × V)} (hd : H d = some (.frz od (.dK kvs))) (h : PairAt K H pp x) : PairAt K (L2.upd H d u) pp x := by
  obtain ⟨q, e, h1⟩ := h
  refine ⟨q, e, ?_⟩
  rcases h1 with (h1 | ⟨o, h1⟩) | h1
  · exact .inl (.inl (by rw [upd_ne (fun z => by rw [z, hd] at h1; cases h1)]; exact h1))
  · exact .inl (.inr ⟨o, by rw [upd_ne (fun z => by rw [z, hd] at h1; cases h1)]; exact h1⟩)
  · exact .inr h1
section
variable {P : Program} {w : World} {K : PySem.W.Frag} {mg : Str → Option Value} {base : Heap} {f f1 f2 f3 f4 f5 f6 f7 f8 f9 C CN CO CI CW : Addr} {fd fd1 fd2 fd3 fd4 fd5 fd6 fd7 fd8 fd9 : FuncData}
abbrev nWeaveNode : List Str := ["self", "name"]
theorem scWeaveNode : FnScope nWeaveNode ["self", "name"] (defScope sWeaveNode) := ⟨rfl, rfl, rfl, by decide +kernel, rfl, by decide +kernel, by decide +kernel⟩
theorem ok_wvNode (S : Sorts K CN CO CI) (F : FnM K "node" "Weave.node" sWeaveNode f fd) (T : WvC K CW) (c0 : Cls K CW) (mK : Meth K CW "check_known" f1) (GK : FnOk P w K mg base CX0 2 f1 fd1 ["self", "name"] (spWvKnown K S CW)) (bK : Binds K fd1 ["self", "name"] []) : FnOk P w K mg base CX0 3 f fd ["self", "name"] (spWvNode K S CW) := by
  refine F.ok scWeaveNode (fun vs H Q E h => ?_) (fun cdv A outer s H vs Q E hr h => ?_)
  · obtain ⟨p, nm, ws, x, rfl, _⟩ := h
    rfl
  · obtain ⟨p, nm, ws, x, rfl, ⟨dx, d, dl, ld, dv, hp, wf⟩, nok, xm, kk⟩ := h
    have hu := hu_of hr
    have nd := scWeaveNode.nd
    refine ⟨_, PSs.nox (pss_cons (ps_expr (pe_meth (pv 0) c0 mK GK hr bK .nil pass0 (pa_cons (pv 1) pa_nil)))
      (pss_one (ps_ret (pe_dget hu (pe_fld (pv 0) rfl) (pv 1) (fun _ _ => rfl))))), ?_⟩
    refine ⟨_, rfl, p, dx, _, rfl, hp, rfl, _, rfl, p, nm, ws, x, rfl, ⟨dx, d, dl, ld, dv, hp, wf⟩, nok, xm, ?_⟩
    refine ⟨_, rfl, p, CW, dx, _, _, rfl, hp, T.cl, T.n1, rfl, _, rfl, d, _, rfl, ?_, kk⟩
    rw [← valV_named nok.nd xm]
    exact DGet.k (k := Sum.inr x.name) wf.named
abbrev nWeavePairs : List Str := ["self", "name"]
theorem scWeavePairs : FnScope nWeavePairs ["self"] (defScope sWeavePairs) := ⟨rfl, rfl, rfl, by decide +kernel, rfl, by decide +kernel, by decide +kernel⟩
theorem ok_wvPairs (S : Sorts K CN CO CI) (F : FnM K "pairs" "Weave.pairs" sWeavePairs f fd) (T : WvC K CW) : FnOk P w K mg base CX0 1 f fd ["self"] (spWvPairs K S CW) := by
  refine F.ok scWeavePairs (fun vs H Q E h => ?_) (fun cdv A outer s H vs Q E hr h => ?_)
  · obtain ⟨p, nm, ws, rfl, _⟩ := h
    rfl
  · obtain ⟨p, nm, ws, rfl, ⟨dx, d, dl, ld, dv, hp, wf⟩, nok, kk⟩ := h
    have hu := hu_of hr
    have nd := scWeavePairs.nd
    have few := nok.few
    have hd := wf.named
    refine ⟨_, PSs.nox (pss_one (ps_ret (pe_lock (pe_lc (own := [("name", 1)]) (g := (gName 1)) (tt := tYes) rfl nd (pi_keys (pe_fld (pv 0) rfl)) (blkOk_by (N := nWeavePairs) (sc := defScope sWeavePairs) (by decide +kernel))
        (fun _ _ _ _ _ => (pg_name (i := 1) nd rfl (Or.inl rfl))) (fun _ _ _ _ _ => pts_nil) (fun _ _ _ _ _ => (pe_tup (pa_cons (pv 1) (pa_cons (pe_dget hu (pe_fldK (K := K) rfl (pv 0) rfl) (pv 1) (fun _ _ => rfl)) pa_nil)))))))), ?_⟩
    refine ⟨d, _, hd, trivial, fun oe => ?_⟩
    have hM : (upd H d (.frz oe (.dK (dNamed nm)))) d = some (.frz oe (.dK (dNamed nm))) := upd_same
    have hpM : (upd H d (.frz oe (.dK (dNamed nm)))) p = some (.ins CW dx (wvF d dl ld dv)) := lock_ne hd hp (fun _ z => by cases z)
    have freeM : ∀ {a : Addr}, (upd H d (.frz oe (.dK (dNamed nm)))) a = none → H a = none := fun {a} e => by
      by_cases z : a = d
      · rw [z, hM] at e
        cases e
      · rw [upd_ne z] at e
        exact e
    generalize eHM : upd H d (.frz oe (.dK (dNamed nm))) = HM at hM hpM freeM
    refine ⟨_, rfl, p, CW, dx, _, _, rfl, hpM, T.cl, T.n1, rfl, d, oe, rfl, .inl ⟨_, hM, fun st hst => ?_⟩⟩
    have nsd : st ≠ d := (ne_of_none hM hst).symm
    refine lc_it (walk_keys (d := d) (o := oe) (kvs := dNamed nm)) (fun j H' => (∃ qs, H' st = some (.lst qs) ∧ Al (PairAt K H') qs (nm.take j)) ∧ Same HM H') ⟨⟨[], upd_same, by rw [List.take_zero]; exact trivial⟩, Same.past (Same.refl _) hst⟩ (fun j H' _ e => e.2 _ _ hM) (fun j v H' H'' hj e y => ?_) (fun H2 e => ?_)
    · obtain ⟨⟨qs, hs1, al⟩, sm⟩ := e
      obtain ⟨rfl, k, v', ek, rfl⟩ := y
      obtain ⟨x, ex, rfl, rfl⟩ := dNamed_get ek
      have xm : x ∈ nm := List.mem_of_getElem? ex
      refine ⟨rfl, ?_⟩
      refine yes_ite ?_
      refine ⟨_, rfl, _, rfl, p, CW, dx, _, _, rfl, sm _ _ hpM, T.cl, T.n1, rfl, _, rfl, d, _, rfl, .inl ⟨_, Sum.inr x.name, .inr ⟨oe, sm _ _ hM⟩, rfl, (valV_named nok.nd xm).symm⟩, (by show 2 ≤ sizeLine; decide), fun t ht => ?_⟩
      have sT := Same.new (o := .tup [V.str x.name, .ref x.adr]) (Same.refl H'') ht
      refine ⟨_, sT _ _ hs1, ?_, ⟨_, upd_same, ?_⟩, Same.past (sm.trans sT) hst⟩
      · rw [al.len, List.length_take]
        exact Nat.lt_of_le_of_lt (show _ ≤ 24 by omega) (by decide)
      · rw [List.take_succ, ex]
        exact Al.snoc (pair_upd (sT _ _ hs1) ⟨t, rfl, .inl (.inl upd_same)⟩) (al.imp fun pp y ⟨q, e, h⟩ => pair_upd (sT _ _ hs1) ⟨q, e, Same.tup sT h⟩)
    · obtain ⟨⟨qs, hs1, al⟩, sm⟩ := e
      have dn : (dNamed nm).length = nm.length := by
        unfold dNamed
        rw [List.length_map]
      rw [dn, List.take_length] at al
      refine ⟨sm _ _ hM, kk st _ (unlock hd (eHM ▸ sm)) (freeM hst) ⟨qs, ?_, al.imp fun pp y h => pair_unl (sm _ _ hM) h⟩⟩
      rw [upd_ne nsd]
      exact hs1
end
end Sw
namespace Sw
open PySem PySem.Spec PyProof.Rows L2
/-! ### the law's drawing -/
def spTake : Sp := fun vs H Q _ => ∃ (p : Addr) (m : Int), vs = [.ref p, .int m] ∧ PotAt H p ∧ 0 < m ∧ m < 1073741824 ∧ ∀ (d : Int) (H' : Hp), 0 ≤ d → d < m → Kept p H H' → PotAt H' p → Q (.int d) H'
def spPot (K : PySem.W.Frag) : Sp := fun vs H Q _ => ∃ (a : Addr) (ns : List Int) (k : Nat), vs = [.ref a, .int (k : Int)] ∧ SqL K H a (ns.map V.int) ∧ k ≤ 1000 ∧ ∀ (p : Addr) (H' : Hp), H p = none → Same H H' → PotAt H' p → Q (.ref p) H'
def spPick (K : PySem.W.Frag) : Sp := fun vs H Q _ => ∃ (p l : Addr) (xs : List V), vs = [.ref p, .ref l] ∧ p ≠ l ∧ PotAt H p ∧ SqL K H l xs ∧ (∀ H', Kept p H H' → SqL K H' l xs) ∧ xs ≠ [] ∧ xs.length < 1073741824 ∧ ∀ (x : V) (H' : Hp), x ∈ xs → Kept p H H' → PotAt H' p → Q x H'
section
variable {P : Program} {w : World} {K : PySem.W.Frag} {mg : Str → Option Value} {base : Heap} {f f1 f2 f3 f4 f5 f6 f7 f8 f9 C CN CO CI CW : Addr} {fd fd1 fd2 fd3 fd4 fd5 fd6 fd7 fd8 fd9 : FuncData}
abbrev nLTake : List Str := ["_law_pot_here", "_law_many", "_law_digit"]
theorem scLTake : FnScope nLTake ["_law_pot_here", "_law_many"] (defScope sLTake) := ⟨rfl, rfl, rfl, by decide +kernel, rfl, by decide +kernel, by decide +kernel⟩
theorem ok_take (F : FnP K "_law_take" sLTake f fd) (gDiv : mg "divmod" = none) : FnOk P w K mg base CX0 1 f fd ["_law_pot_here", "_law_many"] spTake := by
  refine F.ok scLTake (fun vs H Q E h => ?_) (fun cdv A outer s H vs Q E hr h => ?_)
  · obtain ⟨p, m, rfl, _⟩ := h
    rfl
  · obtain ⟨p, m, rfl, ⟨a, ⟨b, c⟩, a0, b0, b1, hp⟩, m0, m1, kk⟩ := h
    have nd := scLTake.nd
    refine ⟨_, PSs.nox (pss_cons (ps_if (pt_cmpR op_gt (pe_ix ix_list (pv 0) pe_int (fun _ _ => rfl)) pe_int (nomark _)) (pss_cons (ps_asg (pe_callB call_divmod (by rfl) gDiv (by decide +kernel) (pa_cons (pe_ix ix_list (pv 0) pe_int (fun _ _ => rfl)) (pa_cons (pv 1) pa_nil))) (pg_tup rfl (pgs_cons (pg_sub (pv 0) pe_int set_list (by intro _; rfl)) (pgs_cons (pg_name (i := 2) nd rfl (Or.inl rfl)) pgs_nil))))
      (pss_one (ps_ret (pv 2)))) pss_nil)
      (pss_cons (ps_asg (pe_op op_add (pe_ix ix_list (pv 0) pe_int (fun _ _ => rfl)) pe_int) (pg_sub (pv 0) pe_int set_list (by intro _; rfl)))
      (pss_cons (ps_asg (pe_op op_mod (pe_op op_add (pe_op op_mul (pe_ix ix_list (pv 0) pe_int (fun _ _ => rfl)) pe_int) (pe_op op_mul pe_int (pe_ix ix_list (pv 0) pe_int (fun _ _ => rfl)))) pe_int) (pg_sub (pv 0) pe_int set_list (by intro _; rfl)))
      (pss_one (ps_ret (pe_op op_mod (pe_op op_fdiv (pe_op op_mod (pe_op op_mul (pe_ix ix_list (pv 0) pe_int (fun _ _ => rfl)) (pe_ix ix_list (pv 0) pe_int (fun _ _ => rfl))) pe_int) pe_int) (pv 1))))))), ?_⟩
    refine ⟨_, rfl, p, _, _, _, rfl, rfl, SqL.of hp, atI_nat (j := 0) rfl, _, _, rfl, rfl, _, rfl, ?_⟩
    refine ite2 (fun h => ?_) (fun _ => ?_)
    · refine ⟨_, rfl, p, _, _, _, rfl, rfl, SqL.of hp, atI_nat (j := 0) rfl, _, rfl, _, _, rfl, ⟨m0, m1⟩, fun t ht => ?_⟩
      have npt : p ≠ t := ne_of_none hp ht
      refine ⟨t, _, rfl, .inl (.inl upd_same), rfl, _, _, rfl, _, rfl, p, _, _, 0, rfl, rfl, (by rw [upd_ne npt]; exact hp), rfl, _, _, rfl, rfl, ?_⟩
      exact ⟨_, rfl, kk _ _ (Int.emod_nonneg _ (by omega)) (Int.emod_lt_of_pos _ m0) (Kept.upd (Kept.new Kept.refl ht)) ⟨_, (b, c), Int.ediv_nonneg a0 (by omega), b0, b1, upd_same⟩⟩
    · refine ⟨_, rfl, p, _, _, _, rfl, rfl, SqL.of hp, atI_nat (j := 2) rfl, _, _, rfl, rfl, ?_⟩
      refine ⟨_, rfl, p, _, _, 2, rfl, rfl, hp, rfl, ?_⟩
      have hq : (upd H p (.lst ([V.int a, V.int b, V.int (c : Int)].set 2 (V.int ((c : Int) + 1))))) p = some (.lst [V.int a, V.int b, V.int ((c : Int) + 1)]) := upd_same
      refine ⟨_, rfl, p, _, _, _, rfl, rfl, SqL.of hq, atI_nat (j := 1) rfl, _, _, rfl, rfl, .inr ⟨by decide, by decide⟩, _, rfl, p, _, _, _, rfl, rfl, SqL.of hq, atI_nat (j := 2) rfl, _, _, rfl, rfl, .inl ⟨by decide, by decide⟩, _, _, rfl, rfl, _, _, rfl, rfl, (by show (0 : Int) < _; decide), ?_⟩
      refine ⟨_, rfl, p, _, _, 1, rfl, rfl, hq, rfl, ?_⟩
      rw [upd_upd]
      have c0 := Int.emod_nonneg (b * 69621 + 15487 * ((c : Int) + 1)) (show (2147483629 : Int) ≠ 0 by decide)
      have c1 := Int.emod_lt_of_pos (b * 69621 + 15487 * ((c : Int) + 1)) (show (0 : Int) < 2147483629 by decide)
      have hz : (upd H p (.lst ([V.int a, V.int b, V.int ((c : Int) + 1)].set 1 (V.int ((b * 69621 + 15487 * ((c : Int) + 1)) % 2147483629))))) p = some (.lst [V.int a, V.int ((b * 69621 + 15487 * ((c : Int) + 1)) % 2147483629), V.int ((c : Int) + 1)]) := upd_same
      refine ⟨_, rfl, p, _, _, _, rfl, rfl, SqL.of hz, atI_nat (j := 1) rfl, _, rfl, p, _, _, _, rfl, rfl, SqL.of hz, atI_nat (j := 1) rfl, _, _, rfl, rfl, .inl ⟨by omega, by omega⟩, ?_⟩
      refine ⟨_, _, rfl, rfl, (by show (0 : Int) < _; decide), _, _, rfl, rfl, ⟨by decide, by decide⟩, _, rfl, _, _, rfl, rfl, m0, ?_⟩
      exact kk _ _ (Int.emod_nonneg _ (by omega)) (Int.emod_lt_of_pos _ m0) (Kept.upd Kept.refl) ⟨_, (_, c + 1), a0, c0, by omega, hz⟩
abbrev nPot : List Str := ["_law_script", "_law_k", "_law_cell"]
theorem scPot : FnScope nPot ["_law_script", "_law_k"] (defScope sPot) := ⟨rfl, rfl, rfl, by decide +kernel, rfl, by decide +kernel, by decide +kernel⟩
theorem ok_pot (F : FnP K "_law_pot" sPot f fd) (gMax : mg "max" = none) (gLen : mg "len" = none) : FnOk P w K mg base CX0 1 f fd ["_law_script", "_law_k"] (spPot K) := by
  refine F.ok scPot (fun vs H Q E h => ?_) (fun cdv A outer s H vs Q E hr h => ?_)
  · obtain ⟨a, ns, k, rfl, _⟩ := h
    rfl
  · obtain ⟨a, ns, k, rfl, hS, k1, kk⟩ := h
    have nd := scPot.nd
    refine ⟨_, PSs.nox (pss_cons (ps_set (i := 2) nd rfl (Or.inl rfl) (pe_ifExp (pt_cmpR op_lt (pv 1) (pe_callB call_len_seq (by rfl) gLen PySem.boot_len (pa_cons (pv 0) pa_nil)) (nomark _)) (pe_ix ix_list (pv 0) (pv 1) (fun _ _ => rfl)) pe_int))
      (pss_one (ps_ret (pe_lst (pa_cons (pe_callB (call_max2 rfl) (by rfl) gMax (by decide +kernel) (pa_cons pe_int (pa_cons (pe_op op_sub (pv 2) (pe_op op_pow pe_int pe_int)) pa_nil))) (pa_cons (pe_op op_mod (pe_op op_pow (pe_op op_add (pe_op op_mul (pe_op op_mod (pv 2) pe_int) pe_int) (pe_op op_mul pe_int (pe_op op_add (pv 1) pe_int))) pe_int) pe_int) (pa_cons pe_int pa_nil))))))), ?_⟩
    refine ⟨_, rfl, _, rfl, a, _, rfl, .inl hS, _, _, rfl, rfl, _, rfl, ?_⟩
    refine ite2 (fun h => ?_) (fun _ => ?_)
    · have h1 := of_decide_eq_true h
      rw [List.length_map] at h1
      have h2 : k < ns.length := by omega
      refine ⟨_, rfl, _, rfl, a, _, _, V.int (ns[k]), rfl, rfl, hS, atI_nat ?_, ?_⟩
      · rw [List.getElem?_map, List.getElem?_eq_getElem h2]
        rfl
      generalize ns[k] = c
      have q0 := Int.emod_nonneg (c : Int) (show (2147483629 : Int) ≠ 0 by decide)
      have q1 := Int.emod_lt_of_pos (c : Int) (show (0 : Int) < 2147483629 by decide)
      refine ⟨_, rfl, _, _, rfl, rfl, ⟨by decide, by decide, by decide⟩, _, _, rfl, rfl, _, _, rfl, ?_⟩
      refine ⟨_, rfl, _, _, rfl, rfl, (by show (0 : Int) < _; decide), _, _, rfl, rfl, .inr ⟨by decide, by decide⟩, ?_⟩
      refine ⟨_, rfl, _, _, rfl, rfl, _, _, rfl, rfl, .inl ⟨by decide, by decide⟩, ?_⟩
      refine ⟨_, _, rfl, rfl, _, _, rfl, rfl, ⟨by decide, by decide, by omega⟩, _, _, rfl, rfl, (by show (0 : Int) < _; decide), ?_⟩
      refine ⟨(by show 3 ≤ sizeLine; decide), fun p hp => kk p _ hp (Same.new (Same.refl _) hp) ⟨_, (_, 0), ?_, Int.emod_nonneg _ (by decide), Int.lt_trans (Int.emod_lt_of_pos _ (by decide)) (by decide), upd_same⟩⟩
      split
      · omega
      · decide
    · have q0 := Int.emod_nonneg (0 : Int) (show (2147483629 : Int) ≠ 0 by decide)
      have q1 := Int.emod_lt_of_pos (0 : Int) (show (0 : Int) < 2147483629 by decide)
      refine ⟨_, rfl, _, _, rfl, rfl, ⟨by decide, by decide, by decide⟩, _, _, rfl, rfl, _, _, rfl, ?_⟩
      refine ⟨_, rfl, _, _, rfl, rfl, (by show (0 : Int) < _; decide), _, _, rfl, rfl, .inr ⟨by decide, by decide⟩, ?_⟩
      refine ⟨_, rfl, _, _, rfl, rfl, _, _, rfl, rfl, .inl ⟨by decide, by decide⟩, ?_⟩
      refine ⟨_, _, rfl, rfl, _, _, rfl, rfl, ⟨by decide, by decide, by omega⟩, _, _, rfl, rfl, (by show (0 : Int) < _; decide), ?_⟩
      refine ⟨(by show 3 ≤ sizeLine; decide), fun p hp => kk p _ hp (Same.new (Same.refl _) hp) ⟨_, (_, 0), ?_, Int.emod_nonneg _ (by decide), Int.lt_trans (Int.emod_lt_of_pos _ (by decide)) (by decide), upd_same⟩⟩
      split
      · omega
      · decide
abbrev nLPick : List Str := ["_law_pot_here", "_law_some"]
theorem scLPick : FnScope nLPick ["_law_pot_here", "_law_some"] (defScope sLPick) := ⟨rfl, rfl, rfl, by decide +kernel, rfl, by decide +kernel, by decide +kernel⟩
theorem ok_pick (F : FnP K "_law_pick" sLPick f fd) (GT : FnOk P w K mg base CX0 1 f1 fd1 ["_law_pot_here", "_law_many"] spTake) (gT : mg "_law_take" = some (.ref f1)) (kT : PySem.W.keepIn K (.ref f1) = true) (bT : Binds K fd1 ["_law_pot_here", "_law_many"] []) (gLen : mg "len" = none) : FnOk P w K mg base CX0 2 f fd ["_law_pot_here", "_law_some"] (spPick K) := by
  refine F.ok scLPick (fun vs H Q E h => ?_) (fun cdv A outer s H vs Q E hr h => ?_)
  · obtain ⟨p, l, xs, rfl, _⟩ := h
    rfl
  · obtain ⟨p, l, xs, rfl, _, hp, hl, kl, ne, few, kk⟩ := h
    have nd := scLPick.nd
    refine ⟨_, PSs.nox (pss_one (ps_ret (pe_ix ix_list (pv 1) (pe_call GT hr rfl gT kT bT .nil pass0 (pa_cons (pv 0) (pa_cons (pe_callB call_len_seq (by rfl) gLen PySem.boot_len (pa_cons (pv 1) pa_nil)) pa_nil))) (fun _ _ => rfl)))), ?_⟩
    have lp := List.length_pos_iff.mpr ne
    refine ⟨_, rfl, _, rfl, _, rfl, l, _, rfl, .inl hl, p, _, rfl, hp, by omega, by omega, fun d H1 d0 d1 k1 hp1 => ?_⟩
    have dl : d.toNat < xs.length := by omega
    refine ⟨l, _, _, _, rfl, rfl, kl _ k1, ?_, kk _ H1 (List.getElem_mem dl) k1 hp1⟩
    have := atI_nat (xs := xs) (j := d.toNat) (List.getElem?_eq_getElem dl)
    rw [Int.toNat_of_nonneg d0] at this
    exact this
end
end Sw
namespace Sw
open PySem PySem.Spec PyProof.Rows L2
theorem op_notIn_seqK {X : Cx} {K : PySem.W.Frag} (h : X.K = K) : OpR X (compareOp .NotIn) (rIn K true) := by
  subst h
  exact op_notIn_seq
theorem op_in_seqK {X : Cx} {K : PySem.W.Frag} (h : X.K = K) : OpR X (compareOp .In) (rIn K false) := by
  subst h
  exact op_in_seq
/-! ### data under changes of the heap -/
mutual
theorem Dp.keep {K : PySem.W.Frag} {H H1 : Hp} (s : Same H H1) : ∀ {d : PyData} {v : V}, Dp K H v d → Dp K H1 v d
  | _, _, .non => .non
  | _, _, .bl b => .bl b
  | _, _, .int i => .int i
  | _, _, .str x => .str x
  | _, _, .lst h a => .lst (s.seq h) (DpAll.keep s a)
  | _, _, .tup h a => .tup (Same.tup s h) (DpAll.keep s a)
theorem DpAll.keep {K : PySem.W.Frag} {H H1 : Hp} (s : Same H H1) : ∀ {ds : List PyData} {vs : List V}, DpAll K H vs ds → DpAll K H1 vs ds
  | _, _, .nil => .nil
  | _, _, .cons h a => .cons (Dp.keep s h) (DpAll.keep s a)
end
/-- tuples stay -/
def KT (K : PySem.W.Frag) (H H1 : Hp) : Prop := ∀ q xs, SqT K H q xs → SqT K H1 q xs
theorem KT.refl {K : PySem.W.Frag} {H : Hp} : KT K H H := fun _ _ h => h
theorem KT.trans {K : PySem.W.Frag} {H H1 H2 : Hp} (a : KT K H H1) (b : KT K H1 H2) : KT K H H2 := fun q xs h => b q xs (a q xs h)
theorem KT.same {K : PySem.W.Frag} {H H1 : Hp} (s : Same H H1) : KT K H H1 := fun _ _ h => Same.tup s h
theorem KT.kept {K : PySem.W.Frag} {p : Addr} {H H1 : Hp} (k : Kept p H H1) (hp : PotAt H p) : KT K H H1 := fun _ _ h => k.tup hp h
theorem KT.lst {K : PySem.W.Frag} {H : Hp} {l : Addr} {ys : List V} {o : HO} (hl : H l = some (.lst ys)) : KT K H (L2.upd H l o) := fun q xs h => by
  rcases h with (h | ⟨u, h⟩) | h
  · exact .inl (.inl (by rw [upd_ne (fun z => by rw [z, hl] at h; cases h)]; exact h))
  · exact .inl (.inr ⟨u, by rw [upd_ne (fun z => by rw [z, hl] at h; cases h)]; exact h⟩)
  · exact .inr h
theorem KT.wo {K : PySem.W.Frag} {H : Hp} {l : Addr} {ys : List V} (hl : H l = some (.lst ys)) : KT K H (wo l H) := fun q xs h => by
  rcases h with (h | ⟨u, h⟩) | h
  · exact .inl (.inl (by rw [wo_ne (fun z => by rw [z, hl] at h; cases h)]; exact h))
  · exact .inl (.inr ⟨u, by rw [wo_ne (fun z => by rw [z, hl] at h; cases h)]; exact h⟩)
  · exact .inr h
mutual
/-- no list in it -/
def noList : PyData → Bool
  | .list _ => false
  | .tuple ds => noLists ds
  | _ => true
def noLists : List PyData → Bool
  | [] => true
  | d :: ds => noList d && noLists ds
end
mutual
theorem Dp.kt {K : PySem.W.Frag} {H H1 : Hp} (s : KT K H H1) : ∀ {d : PyData} {v : V}, noList d = true → Dp K H v d → Dp K H1 v d
  | _, _, _, .non => .non
  | _, _, _, .bl b => .bl b
  | _, _, _, .int i => .int i
  | _, _, _, .str x => .str x
  | _, _, n, .lst h a => by rw [noList] at n; cases n
  | _, _, n, .tup h a => .tup (s _ _ h) (DpAll.kt s (by rw [noList] at n; exact n) a)
theorem DpAll.kt {K : PySem.W.Frag} {H H1 : Hp} (s : KT K H H1) : ∀ {ds : List PyData} {vs : List V}, noLists ds = true → DpAll K H vs ds → DpAll K H1 vs ds
  | _, _, _, .nil => .nil
  | _, _, n, .cons h a => .cons (Dp.kt s (by rw [noLists, Bool.and_eq_true] at n; exact n.1) h) (DpAll.kt s (by rw [noLists, Bool.and_eq_true] at n; exact n.2) a)
end
/-- a list of data in order, one for one -/
def ListD (K : PySem.W.Frag) (H : Hp) (l : Addr) (ds : List PyData) : Prop := ∃ vs, H l = some (.lst vs) ∧ DpAll K H vs ds
theorem DpAll.len {K : PySem.W.Frag} {H : Hp} : ∀ {vs : List V} {ds : List PyData}, DpAll K H vs ds → vs.length = ds.length
  | _, _, .nil => rfl
  | _, _, .cons _ a => by rw [List.length_cons, List.length_cons, DpAll.len a]
theorem DpAll.get {K : PySem.W.Frag} {H : Hp} : ∀ {vs : List V} {ds : List PyData} {i : Nat} {v : V}, DpAll K H vs ds → vs[i]? = some v → ∃ d, ds[i]? = some d ∧ Dp K H v d
  | _, _, i, v, .nil, h => by simp at h
  | _, _, 0, v, .cons h a, e => ⟨_, rfl, by
    have := Option.some.inj e
    rw [← this]
    exact h⟩
  | _, _, i + 1, v, .cons h a, e => by
    obtain ⟨d, h1, h2⟩ := DpAll.get a (by simpa using e)
    exact ⟨d, by simpa using h1, h2⟩
theorem DpAll.snoc {K : PySem.W.Frag} {H : Hp} {v : V} {d : PyData} (h : Dp K H v d) : ∀ {vs : List V} {ds : List PyData}, DpAll K H vs ds → DpAll K H (vs ++ [v]) (ds ++ [d])
  | _, _, .nil => .cons h .nil
  | _, _, .cons g a => .cons g (DpAll.snoc h a)
theorem ListD.keep {K : PySem.W.Frag} {H H1 : Hp} {l : Addr} {ds : List PyData} (h : ListD K H l ds) (s : Same H H1) : ListD K H1 l ds := by
  obtain ⟨vs, h1, h2⟩ := h
  exact ⟨vs, s _ _ h1, DpAll.keep s h2⟩
theorem ListD.dp {K : PySem.W.Frag} {H : Hp} {l : Addr} {ds : List PyData} (h : ListD K H l ds) : Dp K H (.ref l) (.list ds) := by
  obtain ⟨vs, h1, h2⟩ := h
  exact .lst (SqL.of h1) h2
/-! ### the law's names -/
theorem joinL_flat : ∀ zs : List (List Nat), TL.joinL [] zs = zs.flatten
  | [] => rfl
  | [p] => by rw [TL.joinL, List.flatten_cons, List.flatten_nil, List.append_nil]
  | p :: q :: r => by rw [TL.joinL, List.nil_append, joinL_flat (q :: r), ← List.flatten_cons]
def sign (c : Nat) : Str := ⟨#[c]⟩
theorem flat_signs : ∀ cs : List Nat, ((cs.map sign).map TL.tl).flatten = cs
  | [] => rfl
  | c :: cs => by
    rw [List.map_cons, List.map_cons, List.flatten_cons, flat_signs cs]
    rfl
theorem join_signs (cs : List Nat) : (Txt.join "" (cs.map sign)).cps.toList = cs := by
  have e := TL.tl_join "" (cs.map sign)
  rw [← TL.join_eq] at e
  have e2 : TL.tl ("" : Str) = [] := rfl
  rw [e2, joinL_flat, flat_signs] at e
  exact e
theorem len_tl (x : Str) : x.length = x.cps.toList.length := by
  simp [Str.length]
theorem nmOk_of {x : Str} (h1 : 1 ≤ x.cps.toList.length) (h2 : x.cps.toList.length ≤ 8) (h3 : ∀ c ∈ x.cps.toList, c ∈ letters.cps.toList) : NmOk x := ⟨by rw [len_tl]; exact h1, by rw [len_tl]; exact h2, h3⟩
theorem sum_one : ∀ cs : List Nat, ((cs.map sign).map (·.length)).sum = cs.length
  | [] => rfl
  | c :: cs => by
    rw [List.map_cons, List.map_cons, List.sum_cons, sum_one cs, List.length_cons]
    show 1 + _ = _
    omega
theorem letters_len : letters.cps.toList.length = 26 := by decide +kernel
theorem letters_nodup : letters.cps.toList.Nodup := by decide +kernel
theorem strL_flat (ts : List Str) : ∀ x ∈ ts.map V.str, flatV x = true := fun x hx => by
  obtain ⟨y, _, rfl⟩ := List.mem_map.mp hx
  rfl
theorem in_strL {x : Str} {ts : List Str} : inV (.str x) (ts.map V.str) = decide (x ∈ ts) := by
  unfold inV
  induction ts with
  | nil => rfl
  | cons t r ih =>
    rw [List.map_cons, List.any_cons, ih]
    show ((t == x) || decide (x ∈ r)) = _
    by_cases e : t = x
    · subst e
      rw [beq_self_eq_true, decide_eq_true List.mem_cons_self]
      rfl
    · rw [beq_false_of_ne e, Bool.false_or]
      by_cases m : x ∈ r
      · rw [decide_eq_true m, decide_eq_true (List.mem_cons_of_mem _ m)]
      · rw [decide_eq_false m, decide_eq_false fun h => by
          rcases List.mem_cons.mp h with h | h
          · exact e h.symm
          · exact m h]
/-- among 26 letters there is one that isn't taken -/
theorem free_letter {ts : List Str} (h : ts.length ≤ 25) : ∃ c ∈ letters.cps.toList, sign c ∉ ts := by
  apply Classical.byContradiction
  intro no
  have all : ∀ c ∈ letters.cps.toList, sign c ∈ ts := fun c hc => Classical.byContradiction fun n => no ⟨c, hc, n⟩
  have nd : (letters.cps.toList.map sign).Nodup := by
    refine List.Pairwise.map (R := fun a b => a ≠ b) sign (fun a b n e => n ?_) letters_nodup
    have := congrArg (fun x : Str => x.cps.toList) e
    exact (List.cons_eq_cons.mp (show [a] = [b] from this)).1
  have sub : ∀ x ∈ letters.cps.toList.map sign, x ∈ ts := fun x hx => by
    obtain ⟨c, hc, rfl⟩ := List.mem_map.mp hx
    exact all c hc
  have := nodup_len nd sub
  rw [List.length_map, letters_len] at this
  omega
end Sw
namespace Sw
open PySem PySem.Spec PyProof.Rows L2
def spLName : Sp := fun vs H Q _ => ∃ (p l : Addr) (ts : List Str), vs = [.ref p, .ref l] ∧ l ≠ p ∧ PotAt H p ∧ H l = some (.lst (ts.map V.str)) ∧ ts.length ≤ 25 ∧ (∀ t ∈ ts, NmOk t) ∧ ∀ (x : Str) (H' : Hp), NmOk x → x ∉ ts → Kept p H H' → PotAt H' p → Q (.str x) H'
theorem PotAt.ne {H : Hp} {p l : Addr} (h : PotAt H p) (n : H l = none) : l ≠ p := fun z => by
  obtain ⟨_, _, _, _, _, hx⟩ := h
  rw [z, hx] at n
  cases n
theorem PotAt.upd {H : Hp} {p l : Addr} {o : HO} (h : PotAt H p) (n : l ≠ p) : PotAt (L2.upd H l o) p := by
  obtain ⟨a, b, h1, h2, h3, h4⟩ := h
  exact ⟨a, b, h1, h2, h3, by rw [upd_ne n.symm]; exact h4⟩
theorem Kept.free {p l : Addr} {H H' : Hp} (k : Kept p H H') (hp : PotAt H' p) (h : H' l = none) : H l = none := by
  cases e : H l with
  | none => rfl
  | some o =>
    rw [k l o (hp.ne h) e] at h
    cases h
def strsD (ts : List Str) : PyData := .list (ts.map PyData.str)
theorem dp_strs {K : PySem.W.Frag} {H : Hp} : ∀ ts : List Str, DpAll K H (ts.map V.str) (ts.map PyData.str)
  | [] => .nil
  | t :: r => .cons (.str t) (dp_strs r)
theorem nm_strOk {x : Str} (h : NmOk x) : PyData.strOk x = true := by
  unfold PyData.strOk
  rw [← Array.all_toList, List.all_eq_true]
  intro c hc
  have : ∀ c ∈ letters.cps.toList, decide (c < 1114112) = true := by decide +kernel
  exact this c (h.2.2 c hc)
theorem lay_strs : ∀ ts : List Str, (∀ t ∈ ts, NmOk t) → PyData.canLayAll0 (ts.map PyData.str) = true
  | [], _ => rfl
  | t :: r, h => by
    rw [List.map_cons, PyData.canLayAll0, lay_strs r fun z hz => h z (List.mem_cons_of_mem _ hz), PyData.canLay0, nm_strOk (h t List.mem_cons_self)]
    rfl
theorem depth_strs : ∀ ts : List Str, PyData.depthAll (ts.map PyData.str) = 0
  | [] => by rw [List.map_nil, PyData.depthAll]
  | t :: r => by
    rw [List.map_cons, PyData.depthAll, depth_strs r, PyData.depth]
    rfl
theorem shaped_strs {ts : List Str} (h : ∀ t ∈ ts, NmOk t) : SeqAt.shaped (strsD ts) = true := by
  unfold SeqAt.shaped strsD
  rw [PyData.canLay0, lay_strs ts h, PyData.depth, depth_strs]
  rfl
theorem eqv_strs_nil {ts : List Str} : PyData.eqv (strsD ts) (strsD []) = decide (ts = []) := by
  cases ts with
  | nil => rfl
  | cons t r => rfl
theorem four_at {d : Int} (h0 : 0 ≤ d) (h4 : d < 4) : ∃ m : Nat, atI [V.int 1, V.int 2, V.int 5, V.int 8] d = some (.int (m : Int)) ∧ 1 ≤ m ∧ m ≤ 8 := by
  have : d = 0 ∨ d = 1 ∨ d = 2 ∨ d = 3 := by omega
  rcases this with rfl | rfl | rfl | rfl
  · exact ⟨1, rfl, by decide, by decide⟩
  · exact ⟨2, rfl, by decide, by decide⟩
  · exact ⟨5, rfl, by decide, by decide⟩
  · exact ⟨8, rfl, by decide, by decide⟩
theorem nmOk_cut {a b : Str} (ha : NmOk a) (hb : NmOk b) : NmOk (cutS (a ++ b) none (some 8)) := by
  obtain ⟨a1, a2, a3⟩ := ha
  obtain ⟨b1, b2, b3⟩ := hb
  rw [len_tl] at a1 a2 b1 b2
  have e : (cutS (a ++ b) none (some 8)).cps.toList = (a.cps.toList ++ b.cps.toList).take 8 := by
    unfold cutS
    rw [HT.sIx_none, Nat.sub_zero, List.drop_zero]
    show ((a ++ b).cps.toList).take _ = _
    have e1 : (a ++ b).cps.toList = a.cps.toList ++ b.cps.toList := TL.tl_append a b
    rw [e1, len_tl, e1]
    have e2 : HT.sIx (a.cps.toList ++ b.cps.toList).length (a.cps.toList ++ b.cps.toList).length (some 8) = min 8 (a.cps.toList ++ b.cps.toList).length := HT.sIx_nat _ _ 8
    rw [e2]
    by_cases h : 8 ≤ (a.cps.toList ++ b.cps.toList).length
    · rw [Nat.min_eq_left h]
    · rw [Nat.min_eq_right (by omega), List.take_of_length_le (Nat.le_refl _), List.take_of_length_le (by omega)]
  refine nmOk_of ?_ ?_ fun c hc => ?_
  · rw [e, List.length_take, List.length_append]
    omega
  · rw [e, List.length_take]
    omega
  · rw [e] at hc
    rcases List.mem_append.mp (List.mem_of_mem_take hc) with h | h
    · exact a3 c h
    · exact b3 c h
section
variable {P : Program} {w : World} {K : PySem.W.Frag} {mg : Str → Option Value} {base : Heap} {f f1 f2 f3 f4 f5 f6 f7 f8 f9 C CN CO CI CW : Addr} {fd fd1 fd2 fd3 fd4 fd5 fd6 fd7 fd8 fd9 : FuncData}
abbrev nLName : List Str := ["_law_pot_here", "_law_taken", "_law_letters", "_law_many", "_law_tag", "_law_k", "_law_letter"]
theorem scLName : FnScope nLName ["_law_pot_here", "_law_taken"] (defScope sLName) := ⟨rfl, rfl, rfl, by decide +kernel, rfl, by decide +kernel, by decide +kernel⟩
theorem ok_lName (F : FnP K "_law_name" sLName f fd) (GT : FnOk P w K mg base CX0 1 f1 fd1 ["_law_pot_here", "_law_many"] spTake) (gT : mg "_law_take" = some (.ref f1)) (kT : PySem.W.keepIn K (.ref f1) = true) (bT : Binds K fd1 ["_law_pot_here", "_law_many"] []) (gRange : mg "range" = none) : FnOk P w K mg base CX0 2 f fd ["_law_pot_here", "_law_taken"] spLName := by
  refine F.ok scLName (fun vs H Q E h => ?_) (fun cdv A ou s H vs Q E hr h => ?_)
  · obtain ⟨p, l, ts, rfl, _⟩ := h
    rfl
  · obtain ⟨p, l, ts, rfl, nlp, hp, hl, few, tok, kk⟩ := h
    have nd := scLName.nd
    have hu := hr.units
    refine ⟨_, PSs.nox (pss_cons (ps_set (i := 2) nd rfl (Or.inr rfl) pe_str)
      (pss_cons (ps_set (i := 3) nd rfl (Or.inl rfl) (pe_ix ix_list (pe_lst (pa_cons pe_int (pa_cons pe_int (pa_cons pe_int (pa_cons pe_int pa_nil))))) (pe_call GT hr rfl gT kT bT .nil pass0 (pa_cons (pv 0) (pa_cons pe_int pa_nil))) (fun _ _ => rfl)))
      (pss_cons (ps_set (i := 4) nd rfl (Or.inl rfl) (pe_join pe_str (pe_lc (own := [("_law_k", 5)]) (g := (gName 5)) (tt := tYes) rfl nd (pi_range1 rfl gRange (pa_cons (pv 3) pa_nil)) (blkOk_by (N := nLName) (sc := defScope sLName) (by decide +kernel))
        (fun _ _ _ _ _ => (pg_name (i := 5) nd rfl (Or.inl rfl))) (fun _ _ _ _ _ => pts_nil) (fun _ _ _ _ _ => (pe_ix ix_str (pv 2) (pe_call GT hr rfl gT kT bT .nil pass0 (pa_cons (pv 0) (pa_cons pe_int pa_nil))) (fun _ _ => rfl))))))
      (C8.pss_cut (ps_if (PW.pt (pw_and (pt_cmpR (op_neD hu) (pv 1) (pe_lst pa_nil) (nomark _)) (pw_and1 (pt_cmpR op_eq (pe_call GT hr rfl gT kT bT .nil pass0 (pa_cons (pv 0) (pa_cons pe_int pa_nil))) pe_int (nomark _))))) (pss_one (ps_set (i := 4) nd rfl (Or.inl rfl) (pe_slice sl_str (pe_op op_add_str (pe_ix ix_list (pv 1) (pe_un un_neg pe_int) (fun _ _ => rfl)) (pv 4)) po_none (po_some pe_int)))) pss_nil)
      (C8.pss_cut (ps_if (pt_cmpR op_in_seq (pv 4) (pv 1) rfl) (pss_one (ps_set (i := 4) nd rfl (Or.inl rfl) (pe_ix ix_list (pe_lc (own := [("_law_letter", 6)]) (g := (gName 6)) (tt := _) rfl nd (pi_str (pv 2)) (blkOk_by (N := nLName) (sc := defScope sLName) (by decide +kernel))
        (fun _ _ _ _ _ => (pg_name (i := 6) nd rfl (Or.inl rfl))) (fun _ _ _ _ _ => (pts_one (pt_cmpR (op_notIn_seqK (K := K) rfl) (pv 6) (pv 1) rfl))) (fun _ _ _ _ _ => (pv 6))) pe_int (fun _ _ => rfl)))) pss_nil)
      (pss_one (ps_ret (pv 4)))))))), ?_⟩
    refine ⟨(by show 4 ≤ sizeLine; decide), fun q hq => ?_⟩
    have sq := Same.new (o := .lst [V.int 1, V.int 2, V.int 5, V.int 8]) (Same.refl H) hq
    have nqp := hp.ne hq
    refine ⟨_, rfl, p, _, rfl, hp.keep sq, by decide, by decide, fun d H1 d0 d1 k1 hp1 => ?_⟩
    obtain ⟨m, em, m1, m8⟩ := four_at d0 d1
    refine ⟨q, _, _, _, rfl, rfl, SqL.of (k1 _ _ nqp upd_same), em, ?_⟩
    have t1 : Kept p H H1 := (Kept.same sq).trans k1
    refine ⟨⟨_, rfl⟩, _, rfl, _, rfl, by omega, by omega, fun D hD => ?_⟩
    rw [Int.toNat_natCast]
    have nDp := hp1.ne hD
    have nH := t1.free hp1 hD
    refine lc_range (fun i H' => ∃ cs : List Nat, cs.length = i ∧ (∀ c ∈ cs, c ∈ letters.cps.toList) ∧ H' D = some (.lst ((cs.map sign).map V.str)) ∧ Kept p H H' ∧ PotAt H' p) ⟨[], rfl, fun _ h => (List.not_mem_nil h).elim, upd_same, t1.past nH, hp1.upd nDp⟩ (fun i H' hi e => ?_) (fun H2 e => ?_)
    · obtain ⟨cs, el, hc, hd, k2, hp2⟩ := e
      refine ⟨rfl, ?_⟩
      refine yes_ite ?_
      refine ⟨_, rfl, _, rfl, p, _, rfl, hp2, by decide, by decide, fun e H3 e0 e1 k3 hp3 => ?_⟩
      have ll := letters_len
      have el' : e.toNat < letters.cps.toList.length := by omega
      refine ⟨_, _, letters.cps.toList[e.toNat], rfl, rfl, (by show letters.length ≤ sizeLine; decide +kernel), ?_, ?_⟩
      · have := atI_nat (xs := letters.cps.toList) (j := e.toNat) (List.getElem?_eq_getElem el')
        rw [Int.toNat_of_nonneg e0] at this
        exact this
      have hd3 := k3 _ _ nDp hd
      refine ⟨_, hd3, ?_, cs ++ [letters.cps.toList[e.toNat]], ?_, fun c h => ?_, ?_, (k2.trans k3).past nH, hp3.upd nDp⟩
      · rw [List.length_map, List.length_map, el]
        exact Nat.lt_of_lt_of_le (show i < 100 by omega) (by decide)
      · rw [List.length_append, el]
        rfl
      · rcases List.mem_append.mp h with h | h
        · exact hc c h
        · rcases List.mem_cons.mp h with rfl | h
          · exact List.getElem_mem el'
          · cases h
      · rw [List.map_append, List.map_append]
        exact upd_same
    · obtain ⟨cs, el, hc, hd, k2, hp2⟩ := e
      refine ⟨"", D, cs.map sign, rfl, rfl, .inl (SqL.of hd), ?_, ?_⟩
      · rw [sum_one, List.length_map]
        show cs.length + cs.length * 0 ≤ _
        omega
      have ok1 : NmOk (Txt.join "" (cs.map sign)) := nmOk_of (by rw [join_signs]; omega) (by rw [join_signs]; omega) (by rw [join_signs]; exact hc)
      generalize Txt.join "" (cs.map sign) = tag at ok1
      have hl2 := k2 _ _ nlp hl
      refine ⟨fun σ' H' => ∃ tg : Str, σ' = [some (.ref p), some (.ref l), some (.str letters), some (.int (m : Int)), some (.str tg), none, none] ∧ NmOk tg ∧ Kept p H H' ∧ PotAt H' p, ?_, ?_⟩
      · refine ⟨_, rfl, (by show 0 ≤ sizeLine; decide), fun l0 h0 => ?_⟩
        have s0 := Same.new (o := .lst []) (Same.refl H2) h0
        have n0 := k2.free hp2 h0
        refine ⟨strsD ts, strsD [], .lst (SqL.of (s0 _ _ hl2)) (dp_strs ts), .lst (SqL.of upd_same) (dp_strs []), shaped_strs tok, shaped_strs (fun _ h => (List.not_mem_nil h).elim), _, rfl, ?_⟩
        rw [eqv_strs_nil]
        rcases List.eq_nil_or_concat ts with rfl | ⟨c1, here, rfl⟩
        · refine iteF_ rfl (iteF_ rfl ?_)
          exact ⟨tag, rfl, ok1, k2.past n0, hp2.upd (hp2.ne h0)⟩
        · rw [List.concat_eq_append] at *
          refine iteT_ (by rw [decide_eq_false (by simp)]; rfl) ?_
          refine ⟨_, rfl, p, _, rfl, hp2.upd (hp2.ne h0), by decide, by decide, fun e H3 e0 e1 k3 hp3 => ?_⟩
          refine ⟨rfl, _, rfl, ?_⟩
          have k4 : Kept p H H3 := (k2.past n0).trans k3
          refine ite2 (fun _ => ?_) (fun _ => ?_)
          · have hl3 := k4 _ _ nlp hl
            rw [List.map_append] at hl3
            have okh : NmOk here := tok here (List.mem_append_right _ List.mem_cons_self)
            have l1 := okh.2.1
            have l2 := ok1.2.1
            refine ⟨_, rfl, _, rfl, l, _, _, _, rfl, rfl, SqL.of hl3, atI_last _ _, _, rfl, here, tag, rfl, rfl, ?_, ?_⟩
            · exact Nat.le_trans (show _ ≤ 16 by omega) (by decide)
            refine ⟨_, rfl, _, rfl, ?_, _, rfl, nmOk_cut okh ok1, k4, hp3⟩
            rw [show (here ++ tag).length = here.length + tag.length from by rw [len_tl, show (here ++ tag).cps.toList = here.cps.toList ++ tag.cps.toList from TL.tl_append here tag, List.length_append, ← len_tl, ← len_tl]]
            exact Nat.le_trans (show _ ≤ 16 by omega) (by decide)
          · exact ⟨tag, rfl, ok1, k4, hp3⟩
      · rintro σ' H3 ⟨tg, rfl, okg, k3, hp3⟩
        have hl3 := k3 _ _ nlp hl
        refine ⟨fun σ' H' => ∃ tg : Str, σ' = [some (.ref p), some (.ref l), some (.str letters), some (.int (m : Int)), some (.str tg), none, none] ∧ NmOk tg ∧ tg ∉ ts ∧ Kept p H H' ∧ PotAt H' p, ?_, ?_⟩
        · refine ⟨_, rfl, _, rfl, l, _, rfl, .inl (SqL.of hl3), rfl, List.all_eq_true.mpr (strL_flat ts), _, rfl, ?_⟩
          rw [in_strL]
          by_cases z : tg ∈ ts
          · rw [decide_eq_true z]
            refine iteT_ rfl ?_
            refine ⟨_, rfl, _, rfl, fun D2 hD2 => ?_⟩
            have nD2 := hp3.ne hD2
            have nH2 := k3.free hp3 hD2
            refine lc_it (walk_str (z := letters)) (fun i H' => ∃ cs : List Nat, (∀ c ∈ cs, c ∈ letters.cps.toList ∧ sign c ∉ ts) ∧ cs.length ≤ i ∧ ((∃ c ∈ letters.cps.toList.take i, sign c ∉ ts) → cs ≠ []) ∧ H' D2 = some (.lst ((cs.map sign).map V.str)) ∧ Kept p H H' ∧ PotAt H' p) ⟨[], fun _ h => (List.not_mem_nil h).elim, Nat.le_refl _, (fun ⟨c, hc, _⟩ => by rw [List.take_zero] at hc; cases hc), upd_same, k3.past nH2, hp3.upd nD2⟩ (fun _ _ _ _ => trivial) (fun i x H' H'' hi e y => ?_) (fun H4 e => ?_)
            · obtain ⟨cs, hc, cl, ce, hd, k4, hp4⟩ := e
              obtain ⟨rfl, c, ec, rfl⟩ := y
              have ec' : letters.cps.toList[i]? = some c := by
                rw [Array.getElem?_toList]
                exact ec
              have hl4 := k4 _ _ nlp hl
              refine ⟨rfl, ?_⟩
              refine ⟨_, rfl, _, rfl, l, _, rfl, .inl (SqL.of hl4), rfl, List.all_eq_true.mpr (strL_flat ts), _, rfl, ?_⟩
              rw [show V.str ⟨#[c]⟩ = V.str (sign c) from rfl, in_strL]
              by_cases z2 : sign c ∈ ts
              · rw [decide_eq_true z2]
                refine iteF_ rfl ⟨cs, hc, by omega, fun ⟨c', h1, h2⟩ => ce ⟨c', ?_, h2⟩, hd, k4, hp4⟩
                rw [List.take_succ, ec'] at h1
                rcases List.mem_append.mp h1 with h | h
                · exact h
                · rcases List.mem_cons.mp h with rfl | h
                  · exact absurd z2 h2
                  · cases h
              · rw [decide_eq_false z2]
                refine iteT_ rfl ?_
                refine ⟨_, rfl, _, hd, ?_, cs ++ [c], fun c' h => ?_, ?_, fun _ => by simp, ?_, k4.past nH2, hp4.upd nD2⟩
                · rw [List.length_map, List.length_map]
                  have : i < 26 := hi
                  exact Nat.lt_of_lt_of_le (show _ < 100 by omega) (by decide)
                · rcases List.mem_append.mp h with h | h
                  · exact hc c' h
                  · rcases List.mem_cons.mp h with rfl | h
                    · exact ⟨List.mem_of_getElem? ec', z2⟩
                    · cases h
                · rw [List.length_append]
                  show _ + 1 ≤ _
                  omega
                · rw [List.map_append, List.map_append]
                  exact upd_same
            · obtain ⟨cs, hc, cl, ce, hd, k4, hp4⟩ := e
              have ne : cs ≠ [] := ce (by
                obtain ⟨c, h1, h2⟩ := free_letter few
                refine ⟨c, ?_, h2⟩
                rw [List.take_of_length_le (by show letters.cps.toList.length ≤ letters.cps.size; simp)]
                exact h1)
              obtain ⟨c, r, rfl⟩ := List.exists_cons_of_ne_nil ne
              obtain ⟨c1, c2⟩ := hc c List.mem_cons_self
              refine ⟨D2, _, _, _, rfl, rfl, SqL.of hd, atI_nat (j := 0) rfl, sign c, rfl, ?_, c2, k4, hp4⟩
              exact nmOk_of (by show 1 ≤ 1; decide) (by show 1 ≤ 8; decide) fun d hd => by
                rcases List.mem_cons.mp (show d ∈ [c] from hd) with rfl | h
                · exact c1
                · cases h
          · rw [decide_eq_false z]
            refine iteF_ rfl ?_
            exact ⟨tg, rfl, okg, z, k3, hp3⟩
        · rintro σ' H4 ⟨tg, rfl, okg, no, k4, hp4⟩
          exact ⟨_, rfl, kk tg H4 okg no k4 hp4⟩
end
end Sw
namespace Sw
open PySem PySem.Spec PyProof.Rows L2
/-! ### what a node is made of, in the law's words -/
inductive Spec
  | gain (b : Int) (l g : Nat)
  | mix (n : Nat)
  | times
  | choose
  | up (n : Nat)
  | down (n : Nat)
  | resample (u d : Nat)
  | own (ts : List Nat) (g : Nat)
  | outlet
  | inlet
  deriving DecidableEq
def natD (n : Nat) : PyData := .int (n : Int)
def specD : Spec → PyData
  | .gain b l g => .tuple [.str "gain", .int b, natD l, natD g]
  | .mix n => .tuple [.str "mix", natD n]
  | .times => .tuple [.str "times"]
  | .choose => .tuple [.str "choose"]
  | .up n => .tuple [.str "up", natD n]
  | .down n => .tuple [.str "down", natD n]
  | .resample u d => .tuple [.str "resample", natD u, natD d]
  | .own ts g => .tuple [.str "own", .tuple (ts.map natD), natD g]
  | .outlet => .tuple [.str "outlet"]
  | .inlet => .tuple [.str "inlet"]
def Dig (n : Nat) : Prop := 1 ≤ n ∧ n ≤ 8
def SpecOk : Spec → Prop
  | .gain b l g => -9 ≤ b ∧ b ≤ 99 ∧ l ≤ 2 ∧ g ≤ 2
  | .mix n => Dig n
  | .up n => Dig n
  | .down n => Dig n
  | .resample u d => Dig u ∧ Dig d
  | .own ts g => 1 ≤ ts.length ∧ ts.length ≤ 4 ∧ (∀ t ∈ ts, Dig t) ∧ Dig g
  | _ => True
def SpecLo : Spec → Prop
  | .gain b l g => -9 ≤ b ∧ b ≤ 9 ∧ l ≤ 2 ∧ g ≤ 2
  | .mix n => Dig n
  | .up n => Dig n
  | .down n => Dig n
  | .resample u d => Dig u ∧ Dig d
  | .own ts g => 1 ≤ ts.length ∧ ts.length ≤ 4 ∧ (∀ t ∈ ts, Dig t) ∧ Dig g
  | _ => True
theorem SpecLo.ok {s : Spec} (h : SpecLo s) : SpecOk s := by
  cases s with
  | gain b l g =>
    obtain ⟨h1, h2, h3, h4⟩ := h
    exact ⟨h1, by omega, h3, h4⟩
  | _ => exact h
def tks : Spec → List Nat
  | .mix n => List.replicate n 1
  | .times => [1, 1]
  | .choose => [1, 1, 1]
  | .down n => [n]
  | .resample _ d => [d]
  | .own ts _ => ts
  | .inlet => []
  | _ => [1]
def isOut : Spec → Bool
  | .outlet => true
  | _ => false
def isInl : Spec → Bool
  | .inlet => true
  | _ => false
theorem tks_len {s : Spec} (h : SpecOk s) : (tks s).length ≤ 8 := by
  cases s with
  | mix n =>
    have := h.2
    show (List.replicate n 1).length ≤ 8
    rw [List.length_replicate]
    exact this
  | own ts g =>
    have := h.2.1
    show ts.length ≤ 8
    omega
  | _ => first | decide | (show 1 ≤ 8; decide) | (show 2 ≤ 8; decide) | (show 3 ≤ 8; decide) | (show 0 ≤ 8; decide)
theorem tks_pos {s : Spec} (h : SpecOk s) (ni : s ≠ .inlet) : 0 < (tks s).length := by
  cases s with
  | mix n =>
    have := h.1
    show 0 < (List.replicate n 1).length
    rw [List.length_replicate]
    omega
  | own ts g =>
    have := h.1
    show 0 < ts.length
    omega
  | inlet => exact absurd rfl ni
  | _ => first | (show 0 < 1; decide) | (show 0 < 2; decide) | (show 0 < 3; decide)
theorem noLists_nats (ts : List Nat) : noLists (ts.map natD) = true := by
  induction ts with
  | nil => rfl
  | cons t r ih =>
    rw [List.map_cons, noLists, ih]
    rfl
theorem spec_noList (s : Spec) : noList (specD s) = true := by
  cases s with
  | own ts g =>
    simp [specD, noList, noLists, noLists_nats, natD]
  | _ => rfl
theorem dp_nats {K : PySem.W.Frag} {H : Hp} : ∀ ns : List Nat, DpAll K H (ns.map fun (n : Nat) => V.int (n : Int)) (ns.map natD)
  | [] => .nil
  | n :: ns => .cons (.int _) (dp_nats ns)
def SpecAt (K : PySem.W.Frag) (H : Hp) (v : V) (s : Spec) : Prop := Dp K H v (specD s)
theorem SpecAt.kt {K : PySem.W.Frag} {H H1 : Hp} {v : V} {s : Spec} (h : SpecAt K H v s) (k : KT K H H1) : SpecAt K H1 v s := Dp.kt k (spec_noList s) h
def spSpec (K : PySem.W.Frag) : Sp := fun vs H Q _ => ∃ p : Addr, vs = [.ref p] ∧ PotAt H p ∧ ∀ (v : V) (s : Spec) (H' : Hp), SpecLo s → Kept p H H' → PotAt H' p → SpecAt K H' v s → Q v H'
theorem dp_n {K : PySem.W.Frag} {H : Hp} {a : Nat} : Dp K H (.int (1 + (a : Int))) (natD (1 + a)) := by
  unfold natD
  rw [show (1 : Int) + (a : Int) = ((1 + a : Nat) : Int) by omega]
  exact .int _
theorem nat_of {d m : Int} (h0 : 0 ≤ d) (h1 : d < m) : ∃ n : Nat, d = (n : Int) ∧ (n : Int) < m := ⟨d.toNat, by omega, by omega⟩
section
variable {P : Program} {w : World} {K : PySem.W.Frag} {mg : Str → Option Value} {base : Heap} {f f1 f2 f3 f4 f5 f6 f7 f8 f9 C CN CO CI CW : Addr} {fd fd1 fd2 fd3 fd4 fd5 fd6 fd7 fd8 fd9 : FuncData}
abbrev nLSpec : List Str := ["_law_pot_here", "_law_way", "_law_one", "_law_other_here", "_law_k"]
theorem scLSpec : FnScope nLSpec ["_law_pot_here"] (defScope sLSpec) := ⟨rfl, rfl, rfl, by decide +kernel, rfl, by decide +kernel, by decide +kernel⟩
theorem ok_spec (F : FnP K "_law_spec" sLSpec f fd) (GT : FnOk P w K mg base CX0 1 f1 fd1 ["_law_pot_here", "_law_many"] spTake) (gT : mg "_law_take" = some (.ref f1)) (kT : PySem.W.keepIn K (.ref f1) = true) (bT : Binds K fd1 ["_law_pot_here", "_law_many"] []) (gRange : mg "range" = none) (gTuple : mg "tuple" = none) : FnOk P w K mg base CX0 2 f fd ["_law_pot_here"] (spSpec K) := by
  refine F.ok scLSpec (fun vs H Q E h => ?_) (fun cdv A ou s H vs Q E hr h => ?_)
  · obtain ⟨p, rfl, _⟩ := h
    rfl
  · obtain ⟨p, rfl, hp, kk⟩ := h
    have nd := scLSpec.nd
    have hr1 : Room 1 _ := hr.mono (by decide)
    refine ⟨_, PSs.nox (pss_cons (ps_set (i := 1) nd rfl (Or.inl rfl) (pe_call GT hr1 rfl gT kT bT .nil pass0 (pa_cons (pv 0) (pa_cons pe_int pa_nil))))
      (pss_cons (ps_par (i := 2) (j := 3) rfl nd rfl rfl (by decide) rfl rfl (pa_cons (pe_op op_add pe_int (pe_call GT hr1 rfl gT kT bT .nil pass0 (pa_cons (pv 0) (pa_cons pe_int pa_nil)))) (pa_cons (pe_op op_add pe_int (pe_call GT hr1 rfl gT kT bT .nil pass0 (pa_cons (pv 0) (pa_cons pe_int pa_nil)))) pa_nil)) rfl)
      (pss_cons (ps_if (pt_cmpR op_eq (pv 1) pe_int (nomark _)) (pss_one (ps_ret (pe_tup (pa_cons pe_str (pa_cons (pe_op op_sub (pe_call GT hr1 rfl gT kT bT .nil pass0 (pa_cons (pv 0) (pa_cons pe_int pa_nil))) pe_int) (pa_cons (pe_call GT hr1 rfl gT kT bT .nil pass0 (pa_cons (pv 0) (pa_cons pe_int pa_nil))) (pa_cons (pe_call GT hr1 rfl gT kT bT .nil pass0 (pa_cons (pv 0) (pa_cons pe_int pa_nil))) pa_nil))))))) pss_nil)
      (pss_cons (ps_if (pt_cmpR op_eq (pv 1) pe_int (nomark _)) (pss_one (ps_ret (pe_tup (pa_cons pe_str (pa_cons (pv 2) pa_nil))))) pss_nil)
      (pss_cons (ps_if (pt_cmpR op_lt (pv 1) pe_int (nomark _)) (pss_one (ps_ret (pe_ix ix_list (pe_lst (pa_cons (pe_tup (pa_cons pe_str pa_nil)) (pa_cons (pe_tup (pa_cons pe_str pa_nil)) pa_nil))) (pe_op op_sub (pv 1) pe_int) (fun _ _ => rfl)))) pss_nil)
      (pss_cons (ps_if (pt_cmpR op_lt (pv 1) pe_int (nomark _)) (pss_one (ps_ret (pe_ix ix_list (pe_lst (pa_cons (pe_tup (pa_cons pe_str (pa_cons (pv 2) pa_nil))) (pa_cons (pe_tup (pa_cons pe_str (pa_cons (pv 2) pa_nil))) pa_nil))) (pe_op op_sub (pv 1) pe_int) (fun _ _ => rfl)))) pss_nil)
      (pss_cons (ps_if (pt_cmpR op_eq (pv 1) pe_int (nomark _)) (pss_one (ps_ret (pe_tup (pa_cons pe_str (pa_cons (pv 2) (pa_cons (pv 3) pa_nil)))))) pss_nil)
      (pss_cons (ps_if (pt_cmpR op_eq (pv 1) pe_int (nomark _)) (pss_one (ps_ret (pe_tup (pa_cons pe_str (pa_cons (pe_callTy call_tuple_of (by rfl) gTuple (by decide +kernel) (pa_cons (pe_lc (own := [("_law_k", 4)]) (g := (gName 4)) (tt := tYes) rfl nd (pi_range1 rfl gRange (pa_cons (pe_op op_add pe_int (pe_call GT hr1 rfl gT kT bT .nil pass0 (pa_cons (pv 0) (pa_cons pe_int pa_nil)))) pa_nil)) (blkOk_by (N := nLSpec) (sc := defScope sLSpec) (by decide +kernel))
        (fun _ _ _ _ _ => (pg_name (i := 4) nd rfl (Or.inl rfl))) (fun _ _ _ _ _ => pts_nil) (fun _ _ _ _ _ => (pe_op op_add pe_int (pe_call GT hr1 rfl gT kT bT .nil pass0 (pa_cons (pv 0) (pa_cons pe_int pa_nil)))))) pa_nil)) (pa_cons (pv 2) pa_nil)))))) pss_nil)
      (pss_one (ps_ret (pe_tup (pa_cons pe_str pa_nil)))))))))))), ?_⟩
    refine ⟨_, rfl, p, _, rfl, hp, by decide, by decide, fun d H1 d0 d1 k1 hp1 => ?_⟩
    refine ⟨_, rfl, p, _, rfl, hp1, by decide, by decide, fun a H2 a0 a1 k2 hp2 => ⟨_, _, rfl, rfl, ?_⟩⟩
    refine ⟨_, rfl, p, _, rfl, hp2, by decide, by decide, fun b H3 b0 b1 k3 hp3 => ⟨_, _, rfl, rfl, ?_⟩⟩
    have t3 := (k1.trans k2).trans k3
    obtain ⟨a, rfl, a1⟩ := nat_of a0 a1
    obtain ⟨b, rfl, b1⟩ := nat_of b0 b1
    have ea : (1 : Int) + (a : Int) = ((1 + a : Nat) : Int) := by omega
    have eb : (1 : Int) + (b : Int) = ((1 + b : Nat) : Int) := by omega
    have ga : Dig (1 + a) := ⟨by omega, by omega⟩
    have gb : Dig (1 + b) := ⟨by omega, by omega⟩
    refine ⟨_, _, rfl, ?_⟩
    refine ⟨_, rfl, rfl, _, rfl, ?_⟩
    refine ite2 (fun h => ?_) (fun h0 => ?_)
    · refine ⟨_, rfl, p, _, rfl, hp3, by decide, by decide, fun x H4 x0 x1 k4 hp4 => ⟨_, _, rfl, rfl, ?_⟩⟩
      refine ⟨_, rfl, p, _, rfl, hp4, by decide, by decide, fun y H5 y0 y1 k5 hp5 => ?_⟩
      refine ⟨_, rfl, p, _, rfl, hp5, by decide, by decide, fun z H6 z0 z1 k6 hp6 => ?_⟩
      obtain ⟨y, rfl, y1⟩ := nat_of y0 y1
      obtain ⟨z, rfl, z1⟩ := nat_of z0 z1
      refine ⟨(by show 4 ≤ sizeLine; decide), fun t ht => ?_⟩
      have k := ((t3.trans k4).trans k5).trans k6
      exact kk _ (.gain (x - 9) y z) _ ⟨by omega, by omega, by omega, by omega⟩ (k.past (k.free hp6 ht)) (hp6.upd (hp6.ne ht)) (.tup (.inl (.inl upd_same)) (.cons (.str _) (.cons (.int _) (.cons (.int _) (.cons (.int _) .nil)))))
    refine ⟨_, rfl, rfl, _, rfl, ?_⟩
    refine ite2 (fun h => ?_) (fun h1 => ?_)
    · refine ⟨_, rfl, (by show 2 ≤ sizeLine; decide), fun t ht => ?_⟩
      refine kk _ (.mix (1 + a)) _ ga (t3.past (t3.free hp3 ht)) (hp3.upd (hp3.ne ht)) (.tup (.inl (.inl upd_same)) (.cons (.str _) (.cons ?_ .nil)))
      exact dp_n
    refine ⟨_, rfl, _, _, rfl, rfl, _, rfl, ?_⟩
    refine ite2 (fun h => ?_) (fun h2 => ?_)
    · have n0 : d ≠ 0 := fun z => h0 (by rw [z]; rfl)
      have n1 : d ≠ 1 := fun z => h1 (by rw [z]; rfl)
      have h := of_decide_eq_true h
      refine ⟨(by show 1 ≤ sizeLine; decide), fun u hu' => ⟨(by show 1 ≤ sizeLine; decide), fun v hv' => ⟨(by show 2 ≤ sizeLine; decide), fun l hl' => ?_⟩⟩⟩
      have s1 := Same.new (o := .tup [V.str "times"]) (Same.refl H3) hu'
      have s2 := Same.new (o := .tup [V.str "choose"]) (Same.refl _) hv'
      have s3 := Same.new (o := .lst [V.ref u, V.ref v]) (Same.refl _) hl'
      have s := (s1.trans s2).trans s3
      refine ⟨_, rfl, _, _, rfl, rfl, ?_⟩
      have dd : d = 2 ∨ d = 3 := by omega
      rcases dd with rfl | rfl
      · refine ⟨l, _, _, _, rfl, rfl, SqL.of upd_same, atI_nat (j := 0) rfl, ?_⟩
        exact kk _ .times _ trivial (t3.trans (Kept.same s)) (hp3.keep s) (.tup (.inl (.inl (s3 _ _ (s2 _ _ upd_same)))) (.cons (.str _) .nil))
      · refine ⟨l, _, _, _, rfl, rfl, SqL.of upd_same, atI_nat (j := 1) rfl, ?_⟩
        exact kk _ .choose _ trivial (t3.trans (Kept.same s)) (hp3.keep s) (.tup (.inl (.inl (s3 _ _ upd_same))) (.cons (.str _) .nil))
    have h2 : ¬ d < 4 := fun z => h2 (decide_eq_true z)
    refine ⟨_, rfl, _, _, rfl, rfl, _, rfl, ?_⟩
    refine ite2 (fun h => ?_) (fun h3 => ?_)
    · have h := of_decide_eq_true h
      refine ⟨_, rfl, (by show 2 ≤ sizeLine; decide), fun u hu' => ⟨_, rfl, (by show 2 ≤ sizeLine; decide), fun v hv' => ⟨(by show 2 ≤ sizeLine; decide), fun l hl' => ?_⟩⟩⟩
      have s1 := Same.new (o := .tup [V.str "up", V.int (1 + (a : Int))]) (Same.refl H3) hu'
      have s2 := Same.new (o := .tup [V.str "down", V.int (1 + (a : Int))]) (Same.refl _) hv'
      have s3 := Same.new (o := .lst [V.ref u, V.ref v]) (Same.refl _) hl'
      have s := (s1.trans s2).trans s3
      refine ⟨_, rfl, _, _, rfl, rfl, ?_⟩
      have dd : d = 4 ∨ d = 5 := by omega
      rcases dd with rfl | rfl
      · refine ⟨l, _, _, _, rfl, rfl, SqL.of upd_same, atI_nat (j := 0) rfl, ?_⟩
        refine kk _ (.up (1 + a)) _ ga (t3.trans (Kept.same s)) (hp3.keep s) (.tup (.inl (.inl (s3 _ _ (s2 _ _ upd_same)))) (.cons (.str _) (.cons ?_ .nil)))
        exact dp_n
      · refine ⟨l, _, _, _, rfl, rfl, SqL.of upd_same, atI_nat (j := 1) rfl, ?_⟩
        refine kk _ (.down (1 + a)) _ ga (t3.trans (Kept.same s)) (hp3.keep s) (.tup (.inl (.inl (s3 _ _ upd_same))) (.cons (.str _) (.cons ?_ .nil)))
        exact dp_n
    refine ⟨_, rfl, rfl, _, rfl, ?_⟩
    refine ite2 (fun h => ?_) (fun h4 => ?_)
    · refine ⟨_, rfl, _, rfl, (by show 3 ≤ sizeLine; decide), fun t ht => ?_⟩
      refine kk _ (.resample (1 + a) (1 + b)) _ ⟨ga, gb⟩ (t3.past (t3.free hp3 ht)) (hp3.upd (hp3.ne ht)) (.tup (.inl (.inl upd_same)) (.cons (.str _) (.cons ?_ (.cons ?_ .nil))))
      · exact dp_n
      · exact dp_n
    refine ⟨_, rfl, rfl, _, rfl, ?_⟩
    refine ite2 (fun h => ?_) (fun h5 => ?_)
    · refine ⟨_, rfl, p, _, rfl, hp3, by decide, by decide, fun x H4 x0 x1 k4 hp4 => ⟨_, _, rfl, rfl, _, rfl, by omega, by omega, fun D hD => ?_⟩⟩
      have nDp := hp4.ne hD
      have t4 := t3.trans k4
      have nH := t4.free hp4 hD
      refine lc_range (fun i H' => ∃ ts : List Nat, ts.length = i ∧ (∀ t ∈ ts, Dig t) ∧ H' D = some (.lst (ts.map fun (n : Nat) => V.int (n : Int))) ∧ Kept p H H' ∧ PotAt H' p) ⟨[], rfl, fun _ h => (List.not_mem_nil h).elim, upd_same, t4.past nH, hp4.upd nDp⟩ (fun i H' hi e => ?_) (fun H5 e => ?_)
      · obtain ⟨ts, el, hc, hd, k5, hp5⟩ := e
        refine ⟨rfl, ?_⟩
        refine yes_ite ?_
        refine ⟨_, rfl, p, _, rfl, hp5, by decide, by decide, fun y H6 y0 y1 k6 hp6 => ⟨_, _, rfl, rfl, ?_⟩⟩
        obtain ⟨y, rfl, y1⟩ := nat_of y0 y1
        have hd6 := k6 _ _ nDp hd
        refine ⟨_, hd6, ?_, ts ++ [1 + y], ?_, fun t h => ?_, ?_, (k5.trans k6).past nH, hp6.upd nDp⟩
        · rw [List.length_map, el]
          exact Nat.lt_of_lt_of_le (show i < 100 by omega) (by decide)
        · rw [List.length_append, el]
          rfl
        · rcases List.mem_append.mp h with h | h
          · exact hc t h
          · rcases List.mem_cons.mp h with rfl | h
            · exact ⟨by omega, by omega⟩
            · cases h
        · rw [List.map_append, upd_same]
          show some (HO.lst (_ ++ [V.int (1 + (y : Int))])) = _
          rw [show (1 : Int) + (y : Int) = ((1 + y : Nat) : Int) by omega]
          rfl
      · obtain ⟨ts, el, hc, hd, k5, hp5⟩ := e
        refine ⟨D, _, rfl, .inl ⟨SqL.of hd, fun u hu' => ?_⟩⟩
        refine ⟨_, rfl, (by show 3 ≤ sizeLine; decide), fun t ht => ?_⟩
        have s1 := Same.new (o := .tup (ts.map fun (n : Nat) => V.int (n : Int))) (Same.refl H5) hu'
        have s2 := Same.new (o := .tup [V.str "own", V.ref u, V.int (1 + (a : Int))]) (Same.refl _) ht
        have s := s1.trans s2
        refine kk _ (.own ts (1 + a)) _ ⟨by omega, by omega, hc, ga⟩ (k5.trans (Kept.same s)) (hp5.keep s) (.tup (.inl (.inl upd_same)) (.cons (.str _) (.cons (.tup (.inl (.inl (s2 _ _ upd_same))) (dp_nats ts)) (.cons ?_ .nil))))
        exact dp_n
    · refine ⟨(by show 1 ≤ sizeLine; decide), fun t ht => ?_⟩
      exact kk _ .outlet _ trivial (t3.past (t3.free hp3 ht)) (hp3.upd (hp3.ne ht)) (.tup (.inl (.inl upd_same)) (.cons (.str _) .nil))
end
end Sw
namespace Sw
open PySem PySem.Spec PyProof.Rows L2
/-! ### data, taken apart -/
theorem dp_tup {K : PySem.W.Frag} {H : Hp} {v : V} {ds : List PyData} (h : Dp K H v (.tuple ds)) : ∃ q xs, v = .ref q ∧ SqT K H q xs ∧ DpAll K H xs ds := by
  cases h with
  | tup h a => exact ⟨_, _, rfl, h, a⟩
theorem dp_str {K : PySem.W.Frag} {H : Hp} {v : V} {x : Str} (h : Dp K H v (.str x)) : v = .str x := by
  cases h
  rfl
theorem dp_int {K : PySem.W.Frag} {H : Hp} {v : V} {x : Int} (h : Dp K H v (.int x)) : v = .int x := by
  cases h
  rfl
theorem dpAll_cons {K : PySem.W.Frag} {H : Hp} {xs : List V} {d : PyData} {ds : List PyData} (h : DpAll K H xs (d :: ds)) : ∃ v r, xs = v :: r ∧ Dp K H v d ∧ DpAll K H r ds := by
  cases h with
  | cons h a => exact ⟨_, _, rfl, h, a⟩
theorem dpAll_nil {K : PySem.W.Frag} {H : Hp} {xs : List V} (h : DpAll K H xs []) : xs = [] := by
  cases h
  rfl
def natV (n : Nat) : V := .int (n : Int)
theorem dpAll_nats {K : PySem.W.Frag} {H : Hp} : ∀ {ts : List Nat} {xs : List V}, DpAll K H xs (ts.map natD) → xs = ts.map natV
  | [], xs, h => by rw [dpAll_nil h]; rfl
  | t :: r, xs, h => by
    obtain ⟨v, ys, rfl, h1, h2⟩ := dpAll_cons h
    rw [dp_int h1, dpAll_nats h2]
    rfl
/-- the items of a spec's tuple -/
def SpecV (K : PySem.W.Frag) (H : Hp) : Spec → List V → Prop
  | .gain b l g, xs => xs = [.str "gain", .int b, .int (l : Int), .int (g : Int)]
  | .mix n, xs => xs = [.str "mix", .int (n : Int)]
  | .times, xs => xs = [.str "times"]
  | .choose, xs => xs = [.str "choose"]
  | .up n, xs => xs = [.str "up", .int (n : Int)]
  | .down n, xs => xs = [.str "down", .int (n : Int)]
  | .resample u d, xs => xs = [.str "resample", .int (u : Int), .int (d : Int)]
  | .own ts g, xs => ∃ t, xs = [.str "own", .ref t, .int (g : Int)] ∧ SqT K H t (ts.map natV)
  | .outlet, xs => xs = [.str "outlet"]
  | .inlet, xs => xs = [.str "inlet"]
theorem SpecAt.inv {K : PySem.W.Frag} {H : Hp} {v : V} {s : Spec} (h : SpecAt K H v s) : ∃ q xs, v = .ref q ∧ SqT K H q xs ∧ SpecV K H s xs := by
  unfold SpecAt at h
  cases s with
  | gain b l g =>
    obtain ⟨q, xs, rfl, hq, a⟩ := dp_tup h
    obtain ⟨_, _, rfl, a1, a⟩ := dpAll_cons a
    obtain ⟨_, _, rfl, a2, a⟩ := dpAll_cons a
    obtain ⟨_, _, rfl, a3, a⟩ := dpAll_cons a
    obtain ⟨_, _, rfl, a4, a⟩ := dpAll_cons a
    refine ⟨q, _, rfl, hq, ?_⟩
    rw [dp_str a1, dp_int a2, dp_int a3, dp_int a4, dpAll_nil a]
    rfl
  | resample u d =>
    obtain ⟨q, xs, rfl, hq, a⟩ := dp_tup h
    obtain ⟨_, _, rfl, a1, a⟩ := dpAll_cons a
    obtain ⟨_, _, rfl, a2, a⟩ := dpAll_cons a
    obtain ⟨_, _, rfl, a3, a⟩ := dpAll_cons a
    refine ⟨q, _, rfl, hq, ?_⟩
    rw [dp_str a1, dp_int a2, dp_int a3, dpAll_nil a]
    rfl
  | own ts g =>
    obtain ⟨q, xs, rfl, hq, a⟩ := dp_tup h
    obtain ⟨_, _, rfl, a1, b1⟩ := dpAll_cons a
    obtain ⟨v2, _, rfl, a2, b2⟩ := dpAll_cons b1
    obtain ⟨_, _, rfl, a3, b3⟩ := dpAll_cons b2
    obtain ⟨t, ys, e, ht, b⟩ := dp_tup a2
    refine ⟨q, _, rfl, hq, t, ?_, ?_⟩
    · rw [dp_str a1, e, dp_int a3, dpAll_nil b3]
    · rw [← dpAll_nats b]
      exact ht
  | mix n =>
    obtain ⟨q, xs, rfl, hq, a⟩ := dp_tup h
    obtain ⟨_, _, rfl, a1, a⟩ := dpAll_cons a
    obtain ⟨_, _, rfl, a2, a⟩ := dpAll_cons a
    refine ⟨q, _, rfl, hq, ?_⟩
    rw [dp_str a1, dp_int a2, dpAll_nil a]
    rfl
  | up n =>
    obtain ⟨q, xs, rfl, hq, a⟩ := dp_tup h
    obtain ⟨_, _, rfl, a1, a⟩ := dpAll_cons a
    obtain ⟨_, _, rfl, a2, a⟩ := dpAll_cons a
    refine ⟨q, _, rfl, hq, ?_⟩
    rw [dp_str a1, dp_int a2, dpAll_nil a]
    rfl
  | down n =>
    obtain ⟨q, xs, rfl, hq, a⟩ := dp_tup h
    obtain ⟨_, _, rfl, a1, a⟩ := dpAll_cons a
    obtain ⟨_, _, rfl, a2, a⟩ := dpAll_cons a
    refine ⟨q, _, rfl, hq, ?_⟩
    rw [dp_str a1, dp_int a2, dpAll_nil a]
    rfl
  | _ =>
    obtain ⟨q, xs, rfl, hq, a⟩ := dp_tup h
    obtain ⟨_, _, rfl, a1, a⟩ := dpAll_cons a
    refine ⟨q, _, rfl, hq, ?_⟩
    rw [dp_str a1, dpAll_nil a]
    rfl
def tagOf : Spec → Str
  | .gain _ _ _ => "gain"
  | .mix _ => "mix"
  | .times => "times"
  | .choose => "choose"
  | .up _ => "up"
  | .down _ => "down"
  | .resample _ _ => "resample"
  | .own _ _ => "own"
  | .outlet => "outlet"
  | .inlet => "inlet"
theorem SpecV.tag {K : PySem.W.Frag} {H : Hp} {s : Spec} {xs : List V} (h : SpecV K H s xs) : ∃ r, xs = .str (tagOf s) :: r := by
  cases s with
  | own ts g =>
    obtain ⟨t, rfl, _⟩ := h
    exact ⟨_, rfl⟩
  | _ => exact ⟨_, h⟩
theorem SpecAt.tag {K : PySem.W.Frag} {H : Hp} {v : V} {s : Spec} (h : SpecAt K H v s) : ∃ q r, v = .ref q ∧ SqT K H q (.str (tagOf s) :: r) := by
  obtain ⟨q, xs, rfl, hq, sv⟩ := h.inv
  obtain ⟨r, rfl⟩ := sv.tag
  exact ⟨q, r, rfl, hq⟩
def spTakes (K : PySem.W.Frag) : Sp := fun vs H Q _ => ∃ (v : V) (s : Spec), vs = [v] ∧ SpecAt K H v s ∧ SpecOk s ∧ ∀ (q : Addr) (H' : Hp), Same H H' → SqT K H' q ((tks s).map natV) → Q (.ref q) H'
theorem ones (n : Nat) : (List.replicate n [V.int 1]).flatten = (List.replicate n 1).map natV := by
  rw [List.flatten_replicate_singleton, List.map_replicate]
  rfl
section
variable {P : Program} {w : World} {K : PySem.W.Frag} {mg : Str → Option Value} {base : Heap} {f f1 f2 f3 f4 f5 f6 f7 f8 f9 C CN CO CI CW : Addr} {fd fd1 fd2 fd3 fd4 fd5 fd6 fd7 fd8 fd9 : FuncData}
abbrev nLTakes : List Str := ["_law_spec_here"]
theorem scLTakes : FnScope nLTakes ["_law_spec_here"] (defScope sLTakes) := ⟨rfl, rfl, rfl, by decide +kernel, rfl, by decide +kernel, by decide +kernel⟩
theorem ok_takes (F : FnP K "_law_takes" sLTakes f fd) : FnOk P w K mg base CX0 1 f fd ["_law_spec_here"] (spTakes K) := by
  refine F.ok scLTakes (fun vs H Q E h => ?_) (fun cdv A ou s H vs Q E hr h => ?_)
  · obtain ⟨v, sp, rfl, _⟩ := h
    rfl
  · obtain ⟨v, sp, rfl, hs, ok, kk⟩ := h
    have hu := hu_of hr
    have nd := scLTakes.nd
    refine ⟨_, PSs.nox (pss_cons (ps_if (pt_cmpR op_in_seq (pe_ix ix_tup (pv 0) pe_int (fun _ _ => rfl)) (pe_tup (pa_cons pe_str (pa_cons pe_str (pa_cons pe_str pa_nil)))) rfl) (pss_one (ps_ret (pe_op op_times (pe_tup (pa_cons pe_int pa_nil)) (pe_dget hu (pe_disp (pps_cons pe_str (pe_ix ix_tup (pv 0) (pe_un un_neg pe_int) (fun _ _ => rfl)) (pps_cons pe_str pe_int (pps_cons pe_str pe_int pps_nil))) (by rfl) (by rfl) (fun z => by cases z) (by decide)) (pe_ix ix_tup (pv 0) pe_int (fun _ _ => rfl)) (fun _ _ => rfl))))) pss_nil)
      (pss_cons (ps_if (pt_cmpR op_in_seq (pe_ix ix_tup (pv 0) pe_int (fun _ _ => rfl)) (pe_tup (pa_cons pe_str (pa_cons pe_str pa_nil))) rfl) (pss_one (ps_ret (pe_tup (pa_cons (pe_ix ix_tup (pv 0) (pe_un un_neg pe_int) (fun _ _ => rfl)) pa_nil)))) pss_nil)
      (pss_cons (ps_if (pt_cmpR op_in_seq (pe_ix ix_tup (pv 0) pe_int (fun _ _ => rfl)) (pe_tup (pa_cons pe_str (pa_cons pe_str pa_nil))) rfl) (pss_one (ps_ret (pe_ifExp (pt_cmpR op_eq (pe_ix ix_tup (pv 0) pe_int (fun _ _ => rfl)) pe_str (nomark _)) (pe_ix ix_tup (pv 0) pe_int (fun _ _ => rfl)) (pe_tup pa_nil)))) pss_nil)
      (pss_one (ps_ret (pe_tup (pa_cons pe_int pa_nil))))))), ?_⟩
    obtain ⟨q, xs, rfl, hq, sv⟩ := hs.inv
    obtain ⟨r, exs⟩ := sv.tag
    have hq0 := hq
    rw [exs] at hq0
    refine ⟨_, rfl, q, _, _, _, rfl, rfl, hq0, atI_nat (j := 0) rfl, (by show 3 ≤ sizeLine; decide), fun t1 ht1 => ?_⟩
    have s1 := Same.new (o := .tup [V.str "mix", V.str "times", V.str "choose"]) (Same.refl H) ht1
    refine ⟨t1, _, rfl, .inr (.inl (.inl upd_same)), rfl, rfl, _, rfl, ?_⟩
    have k1 : KT K H (upd H t1 (.tup [V.str "mix", V.str "times", V.str "choose"])) := KT.same s1
    generalize upd H t1 (.tup [V.str "mix", V.str "times", V.str "choose"]) = H1 at s1 k1
    have one : ∀ (G : Hp), Same H G → tks sp = [1] → ∀ t, G t = none → Q (.ref t) (upd G t (.tup [V.int 1])) := fun G sG e t ht => by
      refine kk t _ (Same.new sG ht) ?_
      rw [e]
      exact .inl (.inl upd_same)
    cases sp with
    | mix n =>
      obtain rfl := sv
      have ok' : Dig n := ok
      refine iteT_ (by show (if false = true then !inV (V.str "mix") [V.str "mix", V.str "times", V.str "choose"] else inV (V.str "mix") [V.str "mix", V.str "times", V.str "choose"]) = true; decide +kernel) ?_
      refine ⟨(by show 1 ≤ sizeLine; decide), fun t2 ht2 => fun d hd => ?_⟩
      have s2 := Same.new (o := .tup [V.int 1]) (Same.refl H1) ht2
      have s3 := Same.new (o := .dK []) (Same.refl _) hd
      refine ⟨_, rfl, _, rfl, q, _, _, _, rfl, rfl, k1.trans (KT.same (s2.trans s3)) _ _ hq, atI_last [V.str "mix"] _, upd_same, [(Sum.inr "mix", .int (n : Int)), (Sum.inr "times", .int 2), (Sum.inr "choose", .int 3)], rfl, (by show 3 ≤ 15; decide), ?_⟩
      rw [upd_upd]
      have s4' := Same.new (o := .dK (mergeK [] [(Sum.inr "mix", .int (n : Int)), (Sum.inr "times", .int 2), (Sum.inr "choose", .int 3)])) (Same.refl (upd H1 t2 (.tup [V.int 1]))) hd
      have s4 := s2.trans s4'
      refine ⟨_, rfl, q, _, _, _, rfl, rfl, k1.trans (KT.same s4) _ _ hq, atI_nat (j := 0) rfl, d, _, rfl, DGet.k (k := Sum.inr "mix") upd_same, ?_⟩
      refine ⟨t2, n, [V.int 1], rfl, rfl, .inl (.inl (s4' _ _ upd_same)), (by simp), (by have := ok'.2; omega), (by show 1 ≤ 1000; decide), fun e => ?_, fun ne t5 ht5 => ?_⟩
      · refine kk t2 _ (s1.trans s4) ?_
        rw [show tks (.mix n) = [1] by rw [e]; rfl]
        exact .inl (.inl (s4' _ _ upd_same))
      · refine kk t5 _ (Same.new (s1.trans s4) ht5) ?_
        rw [ones]
        exact .inl (.inl upd_same)
    | times =>
      obtain rfl := sv
      refine iteT_ (by show (if false = true then !inV (V.str "times") [V.str "mix", V.str "times", V.str "choose"] else inV (V.str "times") [V.str "mix", V.str "times", V.str "choose"]) = true; decide +kernel) ?_
      refine ⟨(by show 1 ≤ sizeLine; decide), fun t2 ht2 => fun d hd => ?_⟩
      have s2 := Same.new (o := .tup [V.int 1]) (Same.refl H1) ht2
      have s3 := Same.new (o := .dK []) (Same.refl _) hd
      refine ⟨_, rfl, _, rfl, q, _, _, _, rfl, rfl, k1.trans (KT.same (s2.trans s3)) _ _ hq, atI_last [] _, upd_same, [(Sum.inr "mix", .str "times"), (Sum.inr "times", .int 2), (Sum.inr "choose", .int 3)], rfl, (by show 3 ≤ 15; decide), ?_⟩
      rw [upd_upd]
      have s4' := Same.new (o := .dK (mergeK [] [(Sum.inr "mix", .str "times"), (Sum.inr "times", .int 2), (Sum.inr "choose", .int 3)])) (Same.refl (upd H1 t2 (.tup [V.int 1]))) hd
      have s4 := s2.trans s4'
      refine ⟨_, rfl, q, _, _, _, rfl, rfl, k1.trans (KT.same s4) _ _ hq, atI_nat (j := 0) rfl, d, _, rfl, DGet.k (k := Sum.inr "times") upd_same, ?_⟩
      refine ⟨t2, 2, [V.int 1], rfl, rfl, .inl (.inl (s4' _ _ upd_same)), (by simp), (by decide), (by show 1 ≤ 1000; decide), fun e => ?_, fun ne t5 ht5 => ?_⟩
      · exact absurd e (by decide)
      · refine kk t5 _ (Same.new (s1.trans s4) ht5) ?_
        rw [ones]
        exact .inl (.inl upd_same)
    | choose =>
      obtain rfl := sv
      refine iteT_ (by show (if false = true then !inV (V.str "choose") [V.str "mix", V.str "times", V.str "choose"] else inV (V.str "choose") [V.str "mix", V.str "times", V.str "choose"]) = true; decide +kernel) ?_
      refine ⟨(by show 1 ≤ sizeLine; decide), fun t2 ht2 => fun d hd => ?_⟩
      have s2 := Same.new (o := .tup [V.int 1]) (Same.refl H1) ht2
      have s3 := Same.new (o := .dK []) (Same.refl _) hd
      refine ⟨_, rfl, _, rfl, q, _, _, _, rfl, rfl, k1.trans (KT.same (s2.trans s3)) _ _ hq, atI_last [] _, upd_same, [(Sum.inr "mix", .str "choose"), (Sum.inr "times", .int 2), (Sum.inr "choose", .int 3)], rfl, (by show 3 ≤ 15; decide), ?_⟩
      rw [upd_upd]
      have s4' := Same.new (o := .dK (mergeK [] [(Sum.inr "mix", .str "choose"), (Sum.inr "times", .int 2), (Sum.inr "choose", .int 3)])) (Same.refl (upd H1 t2 (.tup [V.int 1]))) hd
      have s4 := s2.trans s4'
      refine ⟨_, rfl, q, _, _, _, rfl, rfl, k1.trans (KT.same s4) _ _ hq, atI_nat (j := 0) rfl, d, _, rfl, DGet.k (k := Sum.inr "choose") upd_same, ?_⟩
      refine ⟨t2, 3, [V.int 1], rfl, rfl, .inl (.inl (s4' _ _ upd_same)), (by simp), (by decide), (by show 1 ≤ 1000; decide), fun e => ?_, fun ne t5 ht5 => ?_⟩
      · exact absurd e (by decide)
      · refine kk t5 _ (Same.new (s1.trans s4) ht5) ?_
        rw [ones]
        exact .inl (.inl upd_same)
    | down n =>
      obtain rfl := sv
      refine iteF_ (by show (if false = true then !inV (V.str "down") [V.str "mix", V.str "times", V.str "choose"] else inV (V.str "down") [V.str "mix", V.str "times", V.str "choose"]) = false; decide +kernel) ?_
      refine ⟨_, rfl, q, _, _, _, rfl, rfl, k1 _ _ hq, atI_nat (j := 0) rfl, (by show 2 ≤ sizeLine; decide), fun t2 ht2 => ?_⟩
      have s2 := Same.new (o := .tup [V.str "down", V.str "resample"]) (Same.refl H1) ht2
      refine ⟨t2, _, rfl, .inr (.inl (.inl upd_same)), rfl, rfl, _, rfl, ?_⟩
      refine iteT_ (by show (if false = true then !inV (V.str "down") [V.str "down", V.str "resample"] else inV (V.str "down") [V.str "down", V.str "resample"]) = true; decide +kernel) ?_
      refine ⟨_, rfl, _, rfl, q, _, _, _, rfl, rfl, k1.trans (KT.same s2) _ _ hq, atI_last [V.str "down"] _, (by show 1 ≤ sizeLine; decide), fun t3 ht3 => ?_⟩
      exact kk t3 _ (Same.new (s1.trans s2) ht3) (.inl (.inl upd_same))
    | resample u n =>
      obtain rfl := sv
      refine iteF_ (by show (if false = true then !inV (V.str "resample") [V.str "mix", V.str "times", V.str "choose"] else inV (V.str "resample") [V.str "mix", V.str "times", V.str "choose"]) = false; decide +kernel) ?_
      refine ⟨_, rfl, q, _, _, _, rfl, rfl, k1 _ _ hq, atI_nat (j := 0) rfl, (by show 2 ≤ sizeLine; decide), fun t2 ht2 => ?_⟩
      have s2 := Same.new (o := .tup [V.str "down", V.str "resample"]) (Same.refl H1) ht2
      refine ⟨t2, _, rfl, .inr (.inl (.inl upd_same)), rfl, rfl, _, rfl, ?_⟩
      refine iteT_ (by show (if false = true then !inV (V.str "resample") [V.str "down", V.str "resample"] else inV (V.str "resample") [V.str "down", V.str "resample"]) = true; decide +kernel) ?_
      refine ⟨_, rfl, _, rfl, q, _, _, _, rfl, rfl, k1.trans (KT.same s2) _ _ hq, atI_last [V.str "resample", V.int (u : Int)] _, (by show 1 ≤ sizeLine; decide), fun t3 ht3 => ?_⟩
      exact kk t3 _ (Same.new (s1.trans s2) ht3) (.inl (.inl upd_same))
    | own ts g =>
      obtain ⟨t, rfl, ht⟩ := sv
      refine iteF_ (by show (if false = true then !inV (V.str "own") [V.str "mix", V.str "times", V.str "choose"] else inV (V.str "own") [V.str "mix", V.str "times", V.str "choose"]) = false; decide +kernel) ?_
      refine ⟨_, rfl, q, _, _, _, rfl, rfl, k1 _ _ hq, atI_nat (j := 0) rfl, (by show 2 ≤ sizeLine; decide), fun t2 ht2 => ?_⟩
      have s2 := Same.new (o := .tup [V.str "down", V.str "resample"]) (Same.refl H1) ht2
      refine ⟨t2, _, rfl, .inr (.inl (.inl upd_same)), rfl, rfl, _, rfl, ?_⟩
      refine iteF_ (by show (if false = true then !inV (V.str "own") [V.str "down", V.str "resample"] else inV (V.str "own") [V.str "down", V.str "resample"]) = false; decide +kernel) ?_
      refine ⟨_, rfl, q, _, _, _, rfl, rfl, k1.trans (KT.same s2) _ _ hq, atI_nat (j := 0) rfl, (by show 2 ≤ sizeLine; decide), fun t3 ht3 => ?_⟩
      have s3 := Same.new (o := .tup [V.str "own", V.str "inlet"]) s2 ht3
      refine ⟨t3, _, rfl, .inr (.inl (.inl upd_same)), rfl, rfl, _, rfl, ?_⟩
      refine iteT_ (by show (if false = true then !inV (V.str "own") [V.str "own", V.str "inlet"] else inV (V.str "own") [V.str "own", V.str "inlet"]) = true; decide +kernel) ?_
      refine ⟨_, rfl, q, _, _, _, rfl, rfl, k1.trans (KT.same s3) _ _ hq, atI_nat (j := 0) rfl, rfl, _, rfl, iteT_ (by show decide (V.str "own" = V.str "own") = true; decide +kernel) ?_⟩
      refine ⟨_, rfl, q, _, _, _, rfl, rfl, k1.trans (KT.same s3) _ _ hq, atI_nat (j := 1) rfl, ?_⟩
      exact kk t _ (s1.trans s3) (KT.same (s1.trans s3) _ _ ht)
    | inlet =>
      obtain rfl := sv
      refine iteF_ (by show (if false = true then !inV (V.str "inlet") [V.str "mix", V.str "times", V.str "choose"] else inV (V.str "inlet") [V.str "mix", V.str "times", V.str "choose"]) = false; decide +kernel) ?_
      refine ⟨_, rfl, q, _, _, _, rfl, rfl, k1 _ _ hq, atI_nat (j := 0) rfl, (by show 2 ≤ sizeLine; decide), fun t2 ht2 => ?_⟩
      have s2 := Same.new (o := .tup [V.str "down", V.str "resample"]) (Same.refl H1) ht2
      refine ⟨t2, _, rfl, .inr (.inl (.inl upd_same)), rfl, rfl, _, rfl, ?_⟩
      refine iteF_ (by show (if false = true then !inV (V.str "inlet") [V.str "down", V.str "resample"] else inV (V.str "inlet") [V.str "down", V.str "resample"]) = false; decide +kernel) ?_
      refine ⟨_, rfl, q, _, _, _, rfl, rfl, k1.trans (KT.same s2) _ _ hq, atI_nat (j := 0) rfl, (by show 2 ≤ sizeLine; decide), fun t3 ht3 => ?_⟩
      have s3 := Same.new (o := .tup [V.str "own", V.str "inlet"]) s2 ht3
      refine ⟨t3, _, rfl, .inr (.inl (.inl upd_same)), rfl, rfl, _, rfl, ?_⟩
      refine iteT_ (by show (if false = true then !inV (V.str "inlet") [V.str "own", V.str "inlet"] else inV (V.str "inlet") [V.str "own", V.str "inlet"]) = true; decide +kernel) ?_
      refine ⟨_, rfl, q, _, _, _, rfl, rfl, k1.trans (KT.same s3) _ _ hq, atI_nat (j := 0) rfl, rfl, _, rfl, iteF_ (by show decide (V.str "inlet" = V.str "own") = false; decide +kernel) ?_⟩
      refine ⟨(by show 0 ≤ sizeLine; decide), fun t4 ht4 => ?_⟩
      exact kk t4 _ (Same.new (s1.trans s3) ht4) (.inl (.inl upd_same))
    | gain b l g =>
      obtain rfl := sv
      refine iteF_ (by show (if false = true then !inV (V.str "gain") [V.str "mix", V.str "times", V.str "choose"] else inV (V.str "gain") [V.str "mix", V.str "times", V.str "choose"]) = false; decide +kernel) ?_
      refine ⟨_, rfl, q, _, _, _, rfl, rfl, k1 _ _ hq, atI_nat (j := 0) rfl, (by show 2 ≤ sizeLine; decide), fun t2 ht2 => ?_⟩
      have s2 := Same.new (o := .tup [V.str "down", V.str "resample"]) (Same.refl H1) ht2
      refine ⟨t2, _, rfl, .inr (.inl (.inl upd_same)), rfl, rfl, _, rfl, ?_⟩
      refine iteF_ (by show (if false = true then !inV (V.str "gain") [V.str "down", V.str "resample"] else inV (V.str "gain") [V.str "down", V.str "resample"]) = false; decide +kernel) ?_
      refine ⟨_, rfl, q, _, _, _, rfl, rfl, k1.trans (KT.same s2) _ _ hq, atI_nat (j := 0) rfl, (by show 2 ≤ sizeLine; decide), fun t3 ht3 => ?_⟩
      have s3 := Same.new (o := .tup [V.str "own", V.str "inlet"]) s2 ht3
      refine ⟨t3, _, rfl, .inr (.inl (.inl upd_same)), rfl, rfl, _, rfl, ?_⟩
      refine iteF_ (by show (if false = true then !inV (V.str "gain") [V.str "own", V.str "inlet"] else inV (V.str "gain") [V.str "own", V.str "inlet"]) = false; decide +kernel) ?_
      exact ⟨(by show 1 ≤ sizeLine; decide), fun t4 ht4 => one _ (s1.trans s3) rfl t4 ht4⟩
    | up n =>
      obtain rfl := sv
      refine iteF_ (by show (if false = true then !inV (V.str "up") [V.str "mix", V.str "times", V.str "choose"] else inV (V.str "up") [V.str "mix", V.str "times", V.str "choose"]) = false; decide +kernel) ?_
      refine ⟨_, rfl, q, _, _, _, rfl, rfl, k1 _ _ hq, atI_nat (j := 0) rfl, (by show 2 ≤ sizeLine; decide), fun t2 ht2 => ?_⟩
      have s2 := Same.new (o := .tup [V.str "down", V.str "resample"]) (Same.refl H1) ht2
      refine ⟨t2, _, rfl, .inr (.inl (.inl upd_same)), rfl, rfl, _, rfl, ?_⟩
      refine iteF_ (by show (if false = true then !inV (V.str "up") [V.str "down", V.str "resample"] else inV (V.str "up") [V.str "down", V.str "resample"]) = false; decide +kernel) ?_
      refine ⟨_, rfl, q, _, _, _, rfl, rfl, k1.trans (KT.same s2) _ _ hq, atI_nat (j := 0) rfl, (by show 2 ≤ sizeLine; decide), fun t3 ht3 => ?_⟩
      have s3 := Same.new (o := .tup [V.str "own", V.str "inlet"]) s2 ht3
      refine ⟨t3, _, rfl, .inr (.inl (.inl upd_same)), rfl, rfl, _, rfl, ?_⟩
      refine iteF_ (by show (if false = true then !inV (V.str "up") [V.str "own", V.str "inlet"] else inV (V.str "up") [V.str "own", V.str "inlet"]) = false; decide +kernel) ?_
      exact ⟨(by show 1 ≤ sizeLine; decide), fun t4 ht4 => one _ (s1.trans s3) rfl t4 ht4⟩
    | outlet  =>
      obtain rfl := sv
      refine iteF_ (by show (if false = true then !inV (V.str "outlet") [V.str "mix", V.str "times", V.str "choose"] else inV (V.str "outlet") [V.str "mix", V.str "times", V.str "choose"]) = false; decide +kernel) ?_
      refine ⟨_, rfl, q, _, _, _, rfl, rfl, k1 _ _ hq, atI_nat (j := 0) rfl, (by show 2 ≤ sizeLine; decide), fun t2 ht2 => ?_⟩
      have s2 := Same.new (o := .tup [V.str "down", V.str "resample"]) (Same.refl H1) ht2
      refine ⟨t2, _, rfl, .inr (.inl (.inl upd_same)), rfl, rfl, _, rfl, ?_⟩
      refine iteF_ (by show (if false = true then !inV (V.str "outlet") [V.str "down", V.str "resample"] else inV (V.str "outlet") [V.str "down", V.str "resample"]) = false; decide +kernel) ?_
      refine ⟨_, rfl, q, _, _, _, rfl, rfl, k1.trans (KT.same s2) _ _ hq, atI_nat (j := 0) rfl, (by show 2 ≤ sizeLine; decide), fun t3 ht3 => ?_⟩
      have s3 := Same.new (o := .tup [V.str "own", V.str "inlet"]) s2 ht3
      refine ⟨t3, _, rfl, .inr (.inl (.inl upd_same)), rfl, rfl, _, rfl, ?_⟩
      refine iteF_ (by show (if false = true then !inV (V.str "outlet") [V.str "own", V.str "inlet"] else inV (V.str "outlet") [V.str "own", V.str "inlet"]) = false; decide +kernel) ?_
      exact ⟨(by show 1 ≤ sizeLine; decide), fun t4 ht4 => one _ (s1.trans s3) rfl t4 ht4⟩
end
end Sw
namespace Sw
open PySem PySem.Spec PyProof.Rows L2
/-! ### rows turned about -/
/-- data without lists, not deep -/
def GoodV (K : PySem.W.Frag) (H : Hp) (v : V) : Prop := ∃ d, Dp K H v d ∧ noList d = true ∧ PyData.canLay0 d = true ∧ d.depth ≤ 5
theorem GoodV.kt {K : PySem.W.Frag} {H H1 : Hp} {v : V} (h : GoodV K H v) (s : KT K H H1) : GoodV K H1 v := by
  obtain ⟨d, h1, h2, h3, h4⟩ := h
  exact ⟨d, Dp.kt s h2 h1, h2, h3, h4⟩
theorem good_all {K : PySem.W.Frag} {H : Hp} : ∀ {ls : List V}, (∀ v ∈ ls, GoodV K H v) → ∃ ds, DpAll K H ls ds ∧ PyData.canLayAll0 ds = true ∧ PyData.depthAll ds ≤ 5
  | [], _ => ⟨[], .nil, rfl, by rw [PyData.depthAll]; decide⟩
  | v :: r, h => by
    obtain ⟨d, h1, _, h3, h4⟩ := h v List.mem_cons_self
    obtain ⟨ds, a1, a2, a3⟩ := good_all (ls := r) fun z hz => h z (List.mem_cons_of_mem _ hz)
    refine ⟨d :: ds, .cons h1 a1, ?_, ?_⟩
    · rw [PyData.canLayAll0, h3, a2]
      rfl
    · rw [PyData.depthAll]
      omega
theorem good_shaped {K : PySem.W.Frag} {H : Hp} {ls : List V} (h : ∀ v ∈ ls, GoodV K H v) : ∃ ds, DpAll K H ls ds ∧ SeqAt.shaped (.list ds) = true := by
  obtain ⟨ds, h1, h2, h3⟩ := good_all h
  refine ⟨ds, h1, ?_⟩
  unfold SeqAt.shaped
  rw [PyData.canLay0, h2, PyData.depth, decide_eq_true (by omega)]
  rfl
theorem eqv_nil {ds : List PyData} : PyData.eqv (.list ds) (.list []) = decide (ds = []) := by
  cases ds with
  | nil => rfl
  | cons t r => rfl
theorem dpAll_nil' {K : PySem.W.Frag} {H : Hp} {xs : List V} {ds : List PyData} (h : DpAll K H xs ds) : ds = [] ↔ xs = [] := by
  cases h with
  | nil => exact ⟨fun _ => rfl, fun _ => rfl⟩
  | cons _ _ => exact ⟨(fun z => by cases z), (fun z => by cases z)⟩
theorem erase_perm {α : Type} : ∀ {l : List α} {k : Nat} (h : k < l.length), (l[k] :: l.eraseIdx k).Perm l
  | [], k, h => absurd h (Nat.not_lt_zero k)
  | a :: r, 0, _ => List.Perm.refl _
  | a :: r, k + 1, h => by
    have h' : k < r.length := by simpa using h
    exact (List.Perm.swap _ _ _).trans ((erase_perm h').cons a)
theorem seqIndex_nat {n : Nat} {k : Nat} (h : k < n) : seqIndex? (k : Int) n = some k := by
  unfold seqIndex?
  simp
  omega
def spTurned (K : PySem.W.Frag) : Sp := fun vs H Q _ => ∃ (p l : Addr) (xs : List V), vs = [.ref p, .ref l] ∧ PotAt H p ∧ H l = some (.lst xs) ∧ (∀ v ∈ xs, GoodV K H v) ∧ xs.length ≤ 1000 ∧ ∀ (l' : Addr) (ys : List V) (H' : Hp), ys.Perm xs → H l' = none → Kept p H H' → PotAt H' p → H' l' = some (.lst ys) → Q (.ref l') H'
section
variable {P : Program} {w : World} {K : PySem.W.Frag} {mg : Str → Option Value} {base : Heap} {f f1 f2 f3 f4 f5 f6 f7 f8 f9 C CN CO CI CW : Addr} {fd fd1 fd2 fd3 fd4 fd5 fd6 fd7 fd8 fd9 : FuncData}
abbrev nLTurned : List Str := ["_law_pot_here", "_law_row", "_law_left", "_law_found"]
theorem scLTurned : FnScope nLTurned ["_law_pot_here", "_law_row"] (defScope sLTurned) := ⟨rfl, rfl, rfl, by decide +kernel, rfl, by decide +kernel, by decide +kernel⟩
theorem ok_turned (F : FnP K "_law_turned" sLTurned f fd) (GT : FnOk P w K mg base CX0 1 f1 fd1 ["_law_pot_here", "_law_many"] spTake) (gT : mg "_law_take" = some (.ref f1)) (kT : PySem.W.keepIn K (.ref f1) = true) (bT : Binds K fd1 ["_law_pot_here", "_law_many"] []) (gLen : mg "len" = none) (gList : mg "list" = none) : FnOk P w K mg base CX0 2 f fd ["_law_pot_here", "_law_row"] (spTurned K) := by
  refine F.ok scLTurned (fun vs H Q E h => ?_) (fun cdv A ou s H vs Q E hr h => ?_)
  · obtain ⟨p, l, xs, rfl, _⟩ := h
    rfl
  · obtain ⟨p, l, xs, rfl, hp, hl, good, few, kk⟩ := h
    have nd := scLTurned.nd
    have hu := hr.units
    have hr1 : Room 1 _ := hr
    refine ⟨_, PSs.nox (pss_cons (ps_par (i := 2) (j := 3) rfl nd rfl rfl (by decide) rfl rfl (pa_cons (pe_callTy call_list_of (by rfl) gList PyProof.Rows.boot_list (pa_cons (pv 1) pa_nil)) (pa_cons (pe_lst pa_nil) pa_nil)) rfl)
      (pss_cons (ps_while PassesOwn.never (pt_cmpR (op_neD hu) (pv 2) (pe_lst pa_nil) (nomark _))
      (pss_one (ps_expr (pe_bm PySem.F.plainAttrs_list PySem.F.slot_list_append PySem.F.type_list_append mt_append (pv 3) (pa_cons (pe_bm PySem.F.plainAttrs_list PySem.F.slot_list_pop PySem.F.type_list_pop mt_popAt (pv 2) (pa_cons (pe_call GT hr1 rfl gT kT bT .nil pass0 (pa_cons (pv 0) (pa_cons (pe_callB call_len_seq (by rfl) gLen PySem.boot_len (pa_cons (pv 2) pa_nil)) pa_nil))) pa_nil)) pa_nil)))))
      (pss_one (ps_ret (pv 3))))), ?_⟩
    refine ⟨_, rfl, l, _, rfl, .inl (SqL.of hl), fun lf hlf => ⟨(by show 0 ≤ sizeLine; decide), fun fo hfo => ⟨_, _, rfl, ?_⟩⟩⟩
    have s1 := Same.new (o := .lst xs) (Same.refl H) hlf
    have hlf1 : (upd H lf (.lst xs)) lf = some (.lst xs) := upd_same
    generalize upd H lf (.lst xs) = H1 at s1 hlf1 hfo
    have s2 := Same.new (o := .lst []) s1 hfo
    have nfl : lf ≠ fo := ne_of_none hlf1 hfo
    have hlf2 : (upd H1 fo (.lst [])) lf = some (.lst xs) := by rw [upd_ne nfl]; exact hlf1
    have hfo2 : (upd H1 fo (.lst [])) fo = some (.lst []) := upd_same
    have fo0 : H fo = none := s1.free hfo
    have nlp : lf ≠ p := hp.ne hlf
    have nfp : fo ≠ p := hp.ne fo0
    generalize upd H1 fo (.lst []) = H2 at s2 hlf2 hfo2
    dsimp only [gName]
    refine seq_while (while_by (fun σ G => ∃ ls fs : List V, σ = [some (.ref p), some (.ref l), some (.ref lf), some (.ref fo)] ∧ G lf = some (.lst ls) ∧ G fo = some (.lst fs) ∧ (fs ++ ls).Perm xs ∧ Kept p H G ∧ PotAt G p ∧ KT K H G)
      (fun σ G => match G lf with
        | some (.lst xs) => xs.length
        | _ => 0)
      ⟨xs, [], rfl, hlf2, hfo2, by rw [List.nil_append], Kept.same s2, hp.keep s2, KT.same s2⟩ ?_ ?_)
    · rintro σ G ⟨ls, fs, rfl, hL, hF, pm, kG, hpG, kt⟩
      have gls : ∀ v ∈ ls, GoodV K G v := fun v hv => (good v (pm.subset (List.mem_append_right _ hv))).kt kt
      have lx := pm.length_eq
      rw [List.length_append] at lx
      refine ⟨_, rfl, (by show 0 ≤ sizeLine; decide), fun e he => ?_⟩
      have s3 := Same.new (o := .lst []) (Same.refl G) he
      have he3 : (upd G e (.lst [])) e = some (.lst []) := upd_same
      have hpe := hpG.ne he
      have fe := kG.free hpG he
      have kG3 : Kept p H (upd G e (.lst [])) := kG.past fe
      generalize upd G e (.lst []) = G3 at s3 he3 kG3
      obtain ⟨ds, dd, sh⟩ := good_shaped fun v hv => (gls v hv).kt (KT.same s3)
      refine ⟨.list ds, .list [], .lst (SqL.of (s3 _ _ hL)) dd, .lst (SqL.of he3) .nil, sh, rfl, _, rfl, ?_⟩
      rw [eqv_nil]
      by_cases z : ls = []
      · subst z
        rw [decide_eq_true ((dpAll_nil' dd).mpr rfl)]
        refine iteF_ rfl ?_
        rw [List.append_nil] at pm
        exact ⟨_, rfl, kk fo fs G3 pm fo0 kG3 (hpG.keep s3) (s3 _ _ hF)⟩
      · rw [decide_eq_false (fun q => z ((dpAll_nil' dd).mp q))]
        refine iteT_ rfl ?_
        have lp := List.length_pos_iff.mpr z
        refine ⟨_, rfl, .inl ⟨rfl, _, SqL.of (s3 _ _ hF)⟩, _, rfl, .inl ⟨rfl, _, SqL.of (s3 _ _ hL)⟩, _, rfl, _, rfl, lf, _, rfl, .inl (SqL.of (s3 _ _ hL)), p, _, rfl, hpG.keep s3, by omega, by omega, fun d G4 d0 d1 k4 hp4 => ?_⟩
        obtain ⟨k, rfl, k1⟩ := nat_of d0 d1
        have kl : k < ls.length := by omega
        have hL4 := k4 _ _ nlp (s3 _ _ hL)
        have hF4 := k4 _ _ nfp (s3 _ _ hF)
        refine ⟨lf, _, _, k, ls[k], rfl, rfl, hL4, by omega, by omega, seqIndex_nat kl, List.getElem?_eq_getElem kl, ?_⟩
        have hF5 : (upd G4 lf (.lst (ls.eraseIdx k))) fo = some (.lst fs) := by rw [upd_ne nfl.symm]; exact hF4
        refine ⟨fo, _, _, rfl, rfl, hF5, ?_, ?_⟩
        · exact Nat.lt_of_lt_of_le (show fs.length < 1001 by omega) (by decide)
        have hL6 : (upd (upd G4 lf (.lst (ls.eraseIdx k))) fo (.lst (fs ++ [ls[k]]))) lf = some (.lst (ls.eraseIdx k)) := by
          rw [upd_ne nfl]
          exact upd_same
        refine ⟨⟨ls.eraseIdx k, fs ++ [ls[k]], rfl, hL6, upd_same, ?_, ((kG3.trans k4).past hlf).past fo0, (hp4.upd nlp).upd nfp, ?_⟩, ?_⟩
        · rw [List.append_assoc]
          exact (List.Perm.append_left fs (erase_perm kl)).trans pm
        · exact (((kt.trans (KT.same s3)).trans (KT.kept k4 (hpG.keep s3))).trans (KT.lst hL4)).trans (KT.lst hF5)
        · rw [hL6, hL]
          show (ls.eraseIdx k).length < ls.length
          rw [List.length_eraseIdx, if_pos kl]
          omega
    · rintro σ G Q1 Q2 m ⟨v, h1, h2, h3⟩
      refine ⟨v, h1, h2, fun e he => ?_⟩
      obtain ⟨d1, d2, a, b, c, d, v', e1, e2⟩ := h3 e he
      exact ⟨d1, d2, a, b, c, d, v', e1, m _ _ e2⟩
end
/-! ### knots -/
abbrev Knot := Str × Spec
def knotD (k : Knot) : PyData := .tuple [.str k.1, specD k.2]
theorem knot_inv {K : PySem.W.Frag} {H : Hp} {v : V} {k : Knot} (h : Dp K H v (knotD k)) : ∃ q sv, v = .ref q ∧ SqT K H q [.str k.1, sv] ∧ SpecAt K H sv k.2 := by
  obtain ⟨q, xs, rfl, hq, a⟩ := dp_tup h
  obtain ⟨_, _, rfl, a1, a⟩ := dpAll_cons a
  obtain ⟨sv, _, rfl, a2, a⟩ := dpAll_cons a
  refine ⟨q, sv, rfl, ?_, a2⟩
  rw [dp_str a1, dpAll_nil a] at hq
  exact hq
theorem knot_noList (k : Knot) : noList (knotD k) = true := by
  unfold knotD
  rw [noList, noLists, noLists, noLists, spec_noList]
  rfl
theorem DpAll.map {K : PySem.W.Frag} {H : Hp} {α : Type} {f : α → PyData} : ∀ {ks : List α} {vs : List V} {i : Nat} {v : V}, DpAll K H vs (ks.map f) → vs[i]? = some v → ∃ k, ks[i]? = some k ∧ Dp K H v (f k) := fun {ks vs i v} h e => by
  obtain ⟨d, h1, h2⟩ := DpAll.get h e
  rw [List.getElem?_map] at h1
  obtain ⟨k, h3, h4⟩ := Option.map_eq_some_iff.mp h1
  exact ⟨k, h3, h4 ▸ h2⟩
def srcN (ks : List Knot) : List Str := (ks.filter fun k => !isOut k.2).map (·.1)
theorem srcN_snoc {ks : List Knot} {j : Nat} {k : Knot} (e : ks[j]? = some k) : srcN (ks.take (j + 1)) = srcN (ks.take j) ++ (if isOut k.2 = false then [k.1] else []) := by
  unfold srcN
  rw [List.take_succ, e, List.filter_append, List.map_append]
  congr 1
  show (List.filter _ [k]).map _ = _
  cases z : isOut k.2 with
  | true => simp [z]
  | false => simp [z]
theorem srcN_len {ks : List Knot} : (srcN ks).length ≤ ks.length := by
  unfold srcN
  rw [List.length_map]
  exact List.length_filter_le _ _
def spSources (K : PySem.W.Frag) : Sp := fun vs H Q _ => ∃ (l : Addr) (xs : List V) (ks : List Knot), vs = [.ref l] ∧ H l = some (.lst xs) ∧ DpAll K H xs (ks.map knotD) ∧ ks.length ≤ 100 ∧ ∀ (l' : Addr) (H' : Hp), H l' = none → Same H H' → H' l' = some (.lst (strL (srcN ks))) → Q (.ref l') H'
theorem tag_out {s : Spec} : (!decide (V.str (tagOf s) = V.str "outlet")) = !isOut s := by
  cases s <;> rfl
section
variable {P : Program} {w : World} {K : PySem.W.Frag} {mg : Str → Option Value} {base : Heap} {f f1 f2 f3 f4 f5 f6 f7 f8 f9 C CN CO CI CW : Addr} {fd fd1 fd2 fd3 fd4 fd5 fd6 fd7 fd8 fd9 : FuncData}
abbrev nLSources : List Str := ["_law_knots", "_law_tag", "_law_spec_here"]
theorem scLSources : FnScope nLSources ["_law_knots"] (defScope sLSources) := ⟨rfl, rfl, rfl, by decide +kernel, rfl, by decide +kernel, by decide +kernel⟩
theorem ok_sources (F : FnP K "_law_sources" sLSources f fd) : FnOk P w K mg base CX0 1 f fd ["_law_knots"] (spSources K) := by
  refine F.ok scLSources (fun vs H Q E h => ?_) (fun cdv A ou s H vs Q E hr h => ?_)
  · obtain ⟨l, xs, ks, rfl, _⟩ := h
    rfl
  · obtain ⟨l, xs, ks, rfl, hl, al, few, kk⟩ := h
    have nd := scLSources.nd
    refine ⟨_, PSs.nox (pss_one (ps_ret (pe_lc (own := [("_law_tag", 1), ("_law_spec_here", 2)]) (g := (gTup K 2 (gCons (gName 1) (gCons (gName 2) gNil)))) (tt := _) rfl nd (pi_list (pv 0)) (blkOk_by (N := nLSources) (sc := defScope sLSources) (by decide +kernel))
        (fun _ _ _ _ _ => (pg_tup rfl (pgs_cons (pg_name (i := 1) nd rfl (Or.inl rfl)) (pgs_cons (pg_name (i := 2) nd rfl (Or.inl rfl)) pgs_nil)))) (fun _ _ _ _ _ => (pts_one (pt_cmpR op_ne (pe_ix (ix_tupK (K := K) rfl) (pv 2) pe_int (fun _ _ => rfl)) pe_str (nomark _)))) (fun _ _ _ _ _ => (pv 1))))), ?_⟩
    have xl : xs.length = ks.length := by rw [DpAll.len al, List.length_map]
    refine ⟨_, rfl, l, rfl, ⟨_, SqL.of hl⟩, fun D hD => ?_⟩
    refine lc_list (xs := xs) (fun j H' => H' D = some (.lst (strL (srcN (ks.take j)))) ∧ Same H H') ⟨by rw [List.take_zero]; exact upd_same, Same.past (Same.refl _) hD⟩ (fun j H' _ e => SqL.of (e.2 _ _ hl)) (fun j v H' ev e => ?_) (fun H1 e => ?_)
    · obtain ⟨hd, sm⟩ := e
      obtain ⟨k, ek, dk⟩ := DpAll.map al ev
      obtain ⟨q, sv, rfl, hq, hs⟩ := knot_inv dk
      obtain ⟨q2, ys, rfl, hq2, sp⟩ := hs.inv
      obtain ⟨r, rfl⟩ := sp.tag
      refine ⟨q, _, rfl, Same.tup sm hq, rfl, _, _, rfl, _, _, rfl, rfl, rfl, ?_⟩
      refine ⟨_, rfl, q2, _, _, _, rfl, rfl, Same.tup sm hq2, atI_nat (j := 0) rfl, rfl, _, rfl, ?_⟩
      rw [tag_out]
      have e2 := srcN_snoc ek
      cases z : isOut k.2 with
      | true =>
        rw [z] at e2
        refine iteF_ rfl ⟨?_, sm⟩
        rw [e2]
        simpa using hd
      | false =>
        rw [z] at e2
        refine iteT_ rfl ⟨_, rfl, _, hd, ?_, ?_, Same.past sm hD⟩
        · unfold strL
          rw [List.length_map]
          have := srcN_len (ks := ks.take j)
          rw [List.length_take] at this
          exact Nat.lt_of_lt_of_le (show _ < 101 by omega) (by decide)
        · rw [e2, upd_same]
          unfold strL
          rw [List.map_append]
          rfl
    · obtain ⟨hd, sm⟩ := e
      rw [xl, List.take_length] at hd
      exact kk D H1 hD sm hd
end
end Sw
namespace Sw
open PySem PySem.Spec PyProof.Rows L2
/-! ### webs: what the law draws -/
def cordD (c : Wr) : PyData := .tuple [.str c.src, .str c.goal, natD c.place, natD c.delay]
theorem cord_inv {K : PySem.W.Frag} {H : Hp} {v : V} {c : Wr} (h : Dp K H v (cordD c)) : ∃ q, v = .ref q ∧ SqT K H q [.str c.src, .str c.goal, .int (c.place : Int), .int (c.delay : Int)] := by
  obtain ⟨q, xs, rfl, hq, a⟩ := dp_tup h
  obtain ⟨_, _, rfl, a1, a⟩ := dpAll_cons a
  obtain ⟨_, _, rfl, a2, a⟩ := dpAll_cons a
  obtain ⟨_, _, rfl, a3, a⟩ := dpAll_cons a
  obtain ⟨_, _, rfl, a4, a⟩ := dpAll_cons a
  refine ⟨q, rfl, ?_⟩
  rw [dp_str a1, dp_str a2, dp_int a3, dp_int a4, dpAll_nil a] at hq
  exact hq
theorem cord_mk {K : PySem.W.Frag} {H : Hp} {q : Addr} {c : Wr} (h : SqT K H q [.str c.src, .str c.goal, .int (c.place : Int), .int (c.delay : Int)]) : Dp K H (.ref q) (cordD c) := .tup h (.cons (.str _) (.cons (.str _) (.cons (.int _) (.cons (.int _) .nil))))
theorem cord_noList (c : Wr) : noList (cordD c) = true := rfl
theorem noLists_map {α : Type} {f : α → PyData} (h : ∀ a, noList (f a) = true) : ∀ ks : List α, noLists (ks.map f) = true
  | [] => rfl
  | k :: r => by
    rw [List.map_cons, noLists, h k, noLists_map h r]
    rfl
/-- a list of such data stays where it and the tuples stay -/
theorem ListD.kt {K : PySem.W.Frag} {H H1 : Hp} {l : Addr} {ds : List PyData} (h : ListD K H l ds) (n : noLists ds = true) (k : KT K H H1) (s : ∀ o, H l = some o → H1 l = some o) : ListD K H1 l ds := by
  obtain ⟨vs, h1, h2⟩ := h
  exact ⟨vs, s _ h1, DpAll.kt k n h2⟩
theorem dp_perm {K : PySem.W.Frag} {H : Hp} {α : Type} {f : α → PyData} {ys xs : List V} (p : ys.Perm xs) : ∀ ks : List α, DpAll K H xs (ks.map f) → ∃ ks' : List α, ks'.Perm ks ∧ DpAll K H ys (ks'.map f) := by
  induction p with
  | nil => exact fun ks h => ⟨ks, List.Perm.refl _, h⟩
  | cons x p ih =>
    intro ks h
    cases ks with
    | nil => cases h
    | cons k r =>
      obtain ⟨v, r', e, h1, h2⟩ := dpAll_cons h
      cases e
      obtain ⟨ks', p', h'⟩ := ih r h2
      exact ⟨k :: ks', p'.cons k, .cons h1 h'⟩
  | swap x y l =>
    intro ks h
    cases ks with
    | nil => cases h
    | cons k r =>
      obtain ⟨v, r', e, h1, h2⟩ := dpAll_cons h
      cases e
      cases r with
      | nil => cases h2
      | cons k2 r =>
        obtain ⟨v, r', e, h3, h4⟩ := dpAll_cons h2
        cases e
        exact ⟨k2 :: k :: r, List.Perm.swap _ _ _, .cons h3 (.cons h1 h4)⟩
  | trans p q ih1 ih2 =>
    intro ks h
    obtain ⟨k1, p1, h1⟩ := ih2 ks h
    obtain ⟨k2, p2, h2⟩ := ih1 k1 h1
    exact ⟨k2, p2.trans p1, h2⟩
theorem lay_nats (ts : List Nat) : PyData.canLayAll0 (ts.map natD) = true := by
  induction ts with
  | nil => rfl
  | cons t r ih =>
    rw [List.map_cons, PyData.canLayAll0, ih]
    rfl
theorem depth_nats (ts : List Nat) : PyData.depthAll (ts.map natD) = 0 := by
  induction ts with
  | nil => rw [List.map_nil, PyData.depthAll]
  | cons t r ih =>
    rw [List.map_cons, PyData.depthAll, ih]
    unfold natD
    rw [PyData.depth]
    rfl
theorem spec_lay (s : Spec) : PyData.canLay0 (specD s) = true ∧ (specD s).depth ≤ 2 := by
  cases s with
  | own ts g =>
    unfold specD
    rw [PyData.canLay0, PyData.canLayAll0, PyData.canLayAll0, PyData.canLayAll0, PyData.canLayAll0, PyData.canLay0, PyData.canLay0, lay_nats, PyData.depth, PyData.depthAll, PyData.depthAll, PyData.depthAll, PyData.depthAll, PyData.depth, PyData.depth, depth_nats]
    unfold natD
    rw [PyData.canLay0, PyData.depth]
    exact ⟨by decide +kernel, by decide⟩
  | gain b l g =>
    unfold specD natD
    simp only [PyData.canLay0, PyData.canLayAll0, PyData.depth, PyData.depthAll]
    exact ⟨by decide +kernel, by decide⟩
  | resample u d =>
    unfold specD natD
    simp only [PyData.canLay0, PyData.canLayAll0, PyData.depth, PyData.depthAll]
    exact ⟨by decide +kernel, by decide⟩
  | mix n =>
    unfold specD natD
    simp only [PyData.canLay0, PyData.canLayAll0, PyData.depth, PyData.depthAll]
    exact ⟨by decide +kernel, by decide⟩
  | up n =>
    unfold specD natD
    simp only [PyData.canLay0, PyData.canLayAll0, PyData.depth, PyData.depthAll]
    exact ⟨by decide +kernel, by decide⟩
  | down n =>
    unfold specD natD
    simp only [PyData.canLay0, PyData.canLayAll0, PyData.depth, PyData.depthAll]
    exact ⟨by decide +kernel, by decide⟩
  | _ =>
    unfold specD
    simp only [PyData.canLay0, PyData.canLayAll0, PyData.depth, PyData.depthAll]
    exact ⟨by decide +kernel, by decide⟩
theorem knot_lay {k : Knot} (h : NmOk k.1) : PyData.canLay0 (knotD k) = true ∧ (knotD k).depth ≤ 3 := by
  obtain ⟨h1, h2⟩ := spec_lay k.2
  unfold knotD
  rw [PyData.canLay0, PyData.canLayAll0, PyData.canLayAll0, PyData.canLayAll0, h1, PyData.canLay0, nm_strOk h, PyData.depth, PyData.depthAll, PyData.depthAll, PyData.depthAll, PyData.depth]
  exact ⟨rfl, by omega⟩
theorem cord_lay {c : Wr} (h : NmOk c.src) (h' : NmOk c.goal) : PyData.canLay0 (cordD c) = true ∧ (cordD c).depth ≤ 3 := by
  unfold cordD natD
  simp only [PyData.canLay0, PyData.canLayAll0, PyData.depth, PyData.depthAll, nm_strOk h, nm_strOk h']
  exact ⟨rfl, by decide⟩
/-- reached from an inlet by first places -/
inductive Reach0 (ks : List Knot) (cs : List Wr) : Str → Prop
  | inl {k : Knot} (h : k ∈ ks) (i : k.2 = .inlet) : Reach0 ks cs k.1
  | step {c : Wr} (h : c ∈ cs) (z : c.place = 0) (r : Reach0 ks cs c.src) : Reach0 ks cs c.goal
theorem Reach0.mono {ks ks' : List Knot} {cs cs' : List Wr} (h1 : ∀ k ∈ ks, k ∈ ks') (h2 : ∀ c ∈ cs, c.place = 0 → c ∈ cs') {x : Str} (h : Reach0 ks cs x) : Reach0 ks' cs' x := by
  induction h with
  | inl h i => exact .inl (h1 _ h) i
  | step h z r ih => exact .step (h2 _ h z) z ih
def keyW (c : Wr) : Str × Nat := (c.goal, c.place)
structure WebB (ks : List Knot) (cs : List Wr) : Prop where
  nd : (ks.map (·.1)).Nodup
  nm : ∀ k ∈ ks, NmOk k.1
  sp : ∀ k ∈ ks, SpecOk k.2
  src : ∀ c ∈ cs, ∃ k ∈ ks, k.1 = c.src ∧ isOut k.2 = false
  goal : ∀ c ∈ cs, ∃ k ∈ ks, k.1 = c.goal ∧ c.place < (tks k.2).length
  del : ∀ c ∈ cs, c.delay ≤ 9999
  one : (cs.map keyW).Nodup
  hd : ks ≠ [] → ∃ k ∈ ks, isOut k.2 = false
def AllP (ks : List Knot) (cs : List Wr) : Prop := ∀ k ∈ ks, ∀ p, p < (tks k.2).length → ∃ c ∈ cs, c.goal = k.1 ∧ c.place = p
def ReaP (ks : List Knot) (cs : List Wr) : Prop := ∀ k ∈ ks, Reach0 ks cs k.1
structure Web (ks : List Knot) (cs : List Wr) : Prop where
  b : WebB ks cs
  all : AllP ks cs
  rea : ReaP ks cs
theorem src_mem {ks : List Knot} {x : Str} (h : x ∈ srcN ks) : ∃ k ∈ ks, k.1 = x ∧ isOut k.2 = false := by
  unfold srcN at h
  obtain ⟨k, hk, rfl⟩ := List.mem_map.mp h
  obtain ⟨h1, h2⟩ := List.mem_filter.mp hk
  exact ⟨k, h1, rfl, by simpa using h2⟩
theorem src_ne {ks : List Knot} (h : ∃ k ∈ ks, isOut k.2 = false) : srcN ks ≠ [] := by
  obtain ⟨k, hk, e⟩ := h
  intro z
  have : k.1 ∈ srcN ks := by
    unfold srcN
    exact List.mem_map.mpr ⟨k, List.mem_filter.mpr ⟨hk, by rw [e]; rfl⟩, rfl⟩
  rw [z] at this
  cases this
/-- in the midst of wiring the last knot: j of its places are fed -/
structure Mid (ks : List Knot) (cs : List Wr) (t : Knot) (j n0 : Nat) : Prop where
  b : WebB (ks ++ [t]) cs
  all : AllP ks cs
  rea : ∀ k ∈ ks, Reach0 (ks ++ [t]) cs k.1
  fed : ∀ p, p < j → ∃ c ∈ cs, c.goal = t.1 ∧ c.place = p
  nxt : ∀ c ∈ cs, c.goal = t.1 → c.place < j
  rch : 0 < j → Reach0 (ks ++ [t]) cs t.1
  len : cs.length = n0 + j
theorem Web.mid {ks : List Knot} {cs : List Wr} {t : Knot} (h : Web ks cs) (n : t.1 ∉ ks.map (·.1)) (h1 : NmOk t.1) (h2 : SpecOk t.2) (h3 : ks = [] → t.2 = .inlet) : Mid ks cs t 0 cs.length := by
  refine ⟨⟨?_, ?_, ?_, ?_, ?_, h.b.del, h.b.one, fun _ => ?_⟩, h.all, fun k hk => (h.rea k hk).mono (fun k hk => List.mem_append_left _ hk) (fun c hc _ => hc), fun p hp => absurd hp (Nat.not_lt_zero p), fun c hc e => ?_, fun z => absurd z (Nat.lt_irrefl 0), rfl⟩
  · rw [List.map_append, List.nodup_append]
    refine ⟨h.b.nd, List.nodup_cons.mpr ⟨List.not_mem_nil, List.nodup_nil⟩, fun a ha b hb e => ?_⟩
    have : b = t.1 := List.mem_singleton.mp hb
    rw [e, this] at ha
    exact n ha
  · intro k hk
    rcases List.mem_append.mp hk with hk | hk
    · exact h.b.nm k hk
    · rw [List.mem_singleton.mp hk]; exact h1
  · intro k hk
    rcases List.mem_append.mp hk with hk | hk
    · exact h.b.sp k hk
    · rw [List.mem_singleton.mp hk]; exact h2
  · intro c hc
    obtain ⟨k, hk, e⟩ := h.b.src c hc
    exact ⟨k, List.mem_append_left _ hk, e⟩
  · intro c hc
    obtain ⟨k, hk, e⟩ := h.b.goal c hc
    exact ⟨k, List.mem_append_left _ hk, e⟩
  · by_cases z : ks = []
    · refine ⟨t, List.mem_append_right _ List.mem_cons_self, ?_⟩
      rw [h3 z]
      rfl
    · obtain ⟨k, hk, e⟩ := h.b.hd z
      exact ⟨k, List.mem_append_left _ hk, e⟩
  · obtain ⟨k, hk, e1, _⟩ := h.b.goal c hc
    exact absurd (List.mem_map.mpr ⟨k, hk, e1.trans e⟩) n
theorem Mid.step {ks : List Knot} {cs : List Wr} {t : Knot} {j n0 : Nat} (h : Mid ks cs t j n0) (jl : j < (tks t.2).length) {x : Str} {d : Nat} (dl : d ≤ 9999) (hx : if j = 0 then x ∈ srcN ks else x ∈ srcN (ks ++ [t])) : Mid ks (cs ++ [⟨x, t.1, j, d⟩]) t (j + 1) n0 := by
  have hx' : ∃ k ∈ ks ++ [t], k.1 = x ∧ isOut k.2 = false := by
    by_cases z : j = 0
    · rw [if_pos z] at hx
      obtain ⟨k, hk, e⟩ := src_mem hx
      exact ⟨k, List.mem_append_left _ hk, e⟩
    · rw [if_neg z] at hx
      exact src_mem hx
  have m1 : ∀ {y : Str}, Reach0 (ks ++ [t]) cs y → Reach0 (ks ++ [t]) (cs ++ [⟨x, t.1, j, d⟩]) y := fun r => r.mono (fun _ hk => hk) (fun c hc _ => List.mem_append_left _ hc)
  refine ⟨⟨h.b.nd, h.b.nm, h.b.sp, ?_, ?_, ?_, ?_, h.b.hd⟩, ?_, fun k hk => m1 (h.rea k hk), ?_, ?_, fun _ => ?_, ?_⟩
  · intro c hc
    rcases List.mem_append.mp hc with hc | hc
    · exact h.b.src c hc
    · rw [List.mem_singleton.mp hc]; exact hx'
  · intro c hc
    rcases List.mem_append.mp hc with hc | hc
    · exact h.b.goal c hc
    · rw [List.mem_singleton.mp hc]; exact ⟨t, List.mem_append_right _ List.mem_cons_self, rfl, jl⟩
  · intro c hc
    rcases List.mem_append.mp hc with hc | hc
    · exact h.b.del c hc
    · rw [List.mem_singleton.mp hc]; exact dl
  · rw [List.map_append, List.nodup_append]
    refine ⟨h.b.one, List.nodup_cons.mpr ⟨List.not_mem_nil, List.nodup_nil⟩, fun a ha b hb e => ?_⟩
    have eb : b = (t.1, j) := List.mem_singleton.mp hb
    obtain ⟨c, hc, ec⟩ := List.mem_map.mp ha
    have e2 : keyW c = (t.1, j) := ec.trans (e.trans eb)
    have := h.nxt c hc (congrArg Prod.fst e2)
    have e3 : c.place = j := congrArg Prod.snd e2
    omega
  · intro k hk p hp
    obtain ⟨c, hc, e⟩ := h.all k hk p hp
    exact ⟨c, List.mem_append_left _ hc, e⟩
  · intro p hp
    by_cases z : p = j
    · exact ⟨_, List.mem_append_right _ List.mem_cons_self, rfl, z.symm⟩
    · obtain ⟨c, hc, e⟩ := h.fed p (by omega)
      exact ⟨c, List.mem_append_left _ hc, e⟩
  · intro c hc e
    rcases List.mem_append.mp hc with hc | hc
    · have := h.nxt c hc e
      omega
    · rw [List.mem_singleton.mp hc]
      exact Nat.lt_succ_self j
  · by_cases z : j = 0
    · rw [if_pos z] at hx
      obtain ⟨k, hk, e, _⟩ := src_mem hx
      exact .step (c := ⟨x, t.1, j, d⟩) (List.mem_append_right _ List.mem_cons_self) z (e ▸ m1 (h.rea k hk))
    · exact m1 (h.rch (by omega))
  · rw [List.length_append, h.len]
    rfl
theorem Mid.done {ks : List Knot} {cs : List Wr} {t : Knot} {n0 : Nat} (h : Mid ks cs t (tks t.2).length n0) : Web (ks ++ [t]) cs := by
  refine ⟨h.b, fun k hk p hp => ?_, fun k hk => ?_⟩
  · rcases List.mem_append.mp hk with hk | hk
    · exact h.all k hk p hp
    · have e := List.mem_singleton.mp hk
      rw [e] at hp ⊢
      exact h.fed p hp
  · rcases List.mem_append.mp hk with hk | hk
    · exact h.rea k hk
    · have e := List.mem_singleton.mp hk
      rw [e]
      by_cases z : t.2 = .inlet
      · exact .inl (List.mem_append_right _ List.mem_cons_self) z
      · exact h.rch (tks_pos (h.b.sp t (List.mem_append_right _ List.mem_cons_self)) z)
theorem Web.swap {ks : List Knot} {cs : List Wr} (h : Web ks cs) {i : Nat} {c : Wr} (e : cs[i]? = some c) (pl : 0 < c.place) {x : Str} (hx : x ∈ srcN ks) : Web ks (cs.set i ⟨x, c.goal, c.place, c.delay⟩) := by
  have il := (List.getElem?_eq_some_iff.mp e).1
  have ek : (cs.set i ⟨x, c.goal, c.place, c.delay⟩).map keyW = cs.map keyW := by
    rw [List.map_set]
    apply List.ext_getElem?
    intro k
    by_cases z : i = k
    · subst z
      rw [List.getElem?_set_self (by rw [List.length_map]; exact il), List.getElem?_map, e]
      rfl
    · rw [List.getElem?_set_ne z]
  have mem : ∀ c' ∈ cs.set i ⟨x, c.goal, c.place, c.delay⟩, c' ∈ cs ∨ c' = ⟨x, c.goal, c.place, c.delay⟩ := fun c' h' => List.mem_or_eq_of_mem_set h'
  have cm : c ∈ cs := List.mem_of_getElem? e
  refine ⟨⟨h.b.nd, h.b.nm, h.b.sp, ?_, ?_, ?_, by rw [ek]; exact h.b.one, h.b.hd⟩, ?_, ?_⟩
  · intro c' hc
    rcases mem c' hc with hc | hc
    · exact h.b.src c' hc
    · rw [hc]; exact src_mem hx
  · intro c' hc
    rcases mem c' hc with hc | hc
    · exact h.b.goal c' hc
    · rw [hc]; exact h.b.goal c cm
  · intro c' hc
    rcases mem c' hc with hc | hc
    · exact h.b.del c' hc
    · rw [hc]; exact h.b.del c cm
  · intro k hk p hp
    obtain ⟨c1, h1, e1, e2⟩ := h.all k hk p hp
    have : keyW c1 ∈ (cs.set i ⟨x, c.goal, c.place, c.delay⟩).map keyW := by
      rw [ek]
      exact List.mem_map.mpr ⟨c1, h1, rfl⟩
    obtain ⟨c2, h2, e3⟩ := List.mem_map.mp this
    exact ⟨c2, h2, (congrArg Prod.fst e3).trans e1, (congrArg Prod.snd e3).trans e2⟩
  · intro k hk
    refine (h.rea k hk).mono (fun _ hk => hk) fun c1 h1 z1 => ?_
    obtain ⟨k1, ek1⟩ := List.getElem?_of_mem h1
    by_cases z : i = k1
    · rw [← z, e] at ek1
      have : c = c1 := Option.some.inj ek1
      rw [this] at pl
      omega
    · refine List.mem_of_getElem? (i := k1) ?_
      rw [List.getElem?_set_ne z]
      exact ek1
theorem Web.perm {ks ks' : List Knot} {cs cs' : List Wr} (h : Web ks cs) (p : ks'.Perm ks) (q : cs'.Perm cs) : Web ks' cs' := by
  have k1 : ∀ {k : Knot}, k ∈ ks → k ∈ ks' := fun h => p.symm.subset h
  have c1 : ∀ {c : Wr}, c ∈ cs → c ∈ cs' := fun h => q.symm.subset h
  refine ⟨⟨((p.map _).nodup_iff).mpr h.b.nd, fun k hk => h.b.nm k (p.subset hk), fun k hk => h.b.sp k (p.subset hk), fun c hc => ?_, fun c hc => ?_, fun c hc => h.b.del c (q.subset hc), ((q.map _).nodup_iff).mpr h.b.one, fun z => ?_⟩, fun k hk i hi => ?_, fun k hk => (h.rea k (p.subset hk)).mono (fun _ => k1) (fun _ hc _ => c1 hc)⟩
  · obtain ⟨k, hk, e⟩ := h.b.src c (q.subset hc)
    exact ⟨k, k1 hk, e⟩
  · obtain ⟨k, hk, e⟩ := h.b.goal c (q.subset hc)
    exact ⟨k, k1 hk, e⟩
  · have : ks ≠ [] := fun y => z (by rw [y] at p; exact p.eq_nil)
    obtain ⟨k, hk, e⟩ := h.b.hd this
    exact ⟨k, k1 hk, e⟩
  · obtain ⟨c, hc, e⟩ := h.all k (p.subset hk) i hi
    exact ⟨c, c1 hc, e⟩
theorem Web.nil : Web [] [] := ⟨⟨List.nodup_nil, fun _ h => (List.not_mem_nil h).elim, fun _ h => (List.not_mem_nil h).elim, fun _ h => (List.not_mem_nil h).elim, fun _ h => (List.not_mem_nil h).elim, fun _ h => (List.not_mem_nil h).elim, List.nodup_nil, fun z => absurd rfl z⟩, fun _ h => (List.not_mem_nil h).elim, fun _ h => (List.not_mem_nil h).elim⟩
theorem nodup_inj {α : Type} {l : List α} (h : l.Nodup) {i j : Nat} (hi : i < l.length) (hj : j < l.length) (e : l[i] = l[j]) : i = j := by
  have p := List.pairwise_iff_getElem.mp h
  rcases Nat.lt_trichotomy i j with z | z | z
  · exact absurd e (p i j hi hj z)
  · exact z
  · exact absurd e.symm (p j i hj hi z)
/-- a weave can be made of a web -/
theorem Web.ok {ks : List Knot} {cs : List Wr} (h : Web ks cs) (few : ks.length ≤ 24) (few' : cs.length ≤ 48) {nm : List Nm} (e : nm.map (fun x => (x.name, x.inf)) = ks.map (fun k => (k.1, (⟨tks k.2, isOut k.2, isInl k.2⟩ : NInf)))) : WvOk nm cs := by
  have en : nm.map Nm.name = ks.map (·.1) := by
    have := congrArg (List.map Prod.fst) e
    rw [List.map_map, List.map_map] at this
    exact this
  have to : ∀ {k : Knot}, k ∈ ks → ∃ x ∈ nm, x.name = k.1 ∧ x.inf = ⟨tks k.2, isOut k.2, isInl k.2⟩ := fun {k} hk => by
    have : (k.1, (⟨tks k.2, isOut k.2, isInl k.2⟩ : NInf)) ∈ nm.map (fun x => (x.name, x.inf)) := by
      rw [e]
      exact List.mem_map.mpr ⟨k, hk, rfl⟩
    obtain ⟨x, hx, ex⟩ := List.mem_map.mp this
    exact ⟨x, hx, congrArg Prod.fst ex, congrArg Prod.snd ex⟩
  have fro : ∀ {x : Nm}, x ∈ nm → ∃ k ∈ ks, x.name = k.1 ∧ x.inf = ⟨tks k.2, isOut k.2, isInl k.2⟩ := fun {x} hx => by
    have : (x.name, x.inf) ∈ ks.map (fun k => (k.1, (⟨tks k.2, isOut k.2, isInl k.2⟩ : NInf))) := by
      rw [← e]
      exact List.mem_map.mpr ⟨x, hx, rfl⟩
    obtain ⟨k, hk, ek⟩ := List.mem_map.mp this
    exact ⟨k, hk, (congrArg Prod.fst ek).symm, (congrArg Prod.snd ek).symm⟩
  have ln : nm.length = ks.length := by
    have := congrArg List.length en
    rw [List.length_map, List.length_map] at this
    exact this
  have re : ∀ {y : Str}, Reach0 ks cs y → Reach nm cs y := fun r => by
    induction r with
    | inl h i =>
      obtain ⟨x, hx, e1, e2⟩ := to h
      exact e1 ▸ .inl hx (by rw [e2, i]; rfl)
    | step h z r ih => exact .step h ih
  refine ⟨⟨by omega, fun x hx => ?_, by rw [en]; exact h.b.nd⟩, few', fun c hc => ?_, fun c hc => ?_, h.b.del, fun i j c c' h1 h2 e1 e2 => ?_, fun x hx p hp => ?_, fun x hx => ?_⟩
  · obtain ⟨k, hk, e1, _⟩ := fro hx
    rw [e1]
    exact h.b.nm k hk
  · obtain ⟨k, hk, e1, e2⟩ := h.b.src c hc
    obtain ⟨x, hx, e3, e4⟩ := to hk
    exact ⟨x, hx, e3.trans e1, by rw [e4]; exact e2⟩
  · obtain ⟨k, hk, e1, e2⟩ := h.b.goal c hc
    obtain ⟨x, hx, e3, e4⟩ := to hk
    exact ⟨x, hx, e3.trans e1, by rw [e4]; exact e2⟩
  · have g1 : (cs.map keyW)[i]? = some (keyW c) := by rw [List.getElem?_map, h1]; rfl
    have g2 : (cs.map keyW)[j]? = some (keyW c) := by
      rw [List.getElem?_map, h2]
      show some (c'.goal, c'.place) = some (c.goal, c.place)
      rw [e1, e2]
    obtain ⟨l1, v1⟩ := List.getElem?_eq_some_iff.mp g1
    obtain ⟨l2, v2⟩ := List.getElem?_eq_some_iff.mp g2
    exact nodup_inj h.b.one l1 l2 (v1.trans v2.symm)
  · obtain ⟨k, hk, e1, e2⟩ := fro hx
    rw [e2] at hp
    obtain ⟨c, hc, e3, e4⟩ := h.all k hk p hp
    exact ⟨c, hc, e3.trans e1.symm, e4⟩
  · obtain ⟨k, hk, e1, _⟩ := fro hx
    rw [e1]
    exact re (h.rea k hk)
end Sw
namespace Sw
open PySem PySem.Spec PyProof.Rows L2
/-- how far the drawing is -/
structure Dr (K : PySem.W.Frag) (H G : Hp) (p kl cl : Addr) (ks : List Knot) (cs : List Wr) : Prop where
  kn : ListD K G kl (ks.map knotD)
  cd : ListD K G cl (cs.map cordD)
  kp : Kept p H G
  pt : PotAt G p
  lo : ∀ k ∈ ks, SpecLo k.2
theorem Dr.same {K : PySem.W.Frag} {H G G' : Hp} {p kl cl : Addr} {ks : List Knot} {cs : List Wr} (h : Dr K H G p kl cl ks cs) (s : Same G G') : Dr K H G' p kl cl ks cs := ⟨h.kn.keep s, h.cd.keep s, h.kp.trans (Kept.same s), h.pt.keep s, h.lo⟩
theorem Dr.kept {K : PySem.W.Frag} {H G G' : Hp} {p kl cl : Addr} {ks : List Knot} {cs : List Wr} (h : Dr K H G p kl cl ks cs) (n1 : kl ≠ p) (n2 : cl ≠ p) (k : Kept p G G') (hp : PotAt G' p) : Dr K H G' p kl cl ks cs :=
  ⟨h.kn.kt (noLists_map knot_noList _) (KT.kept k h.pt) (fun o e => k _ _ n1 e), h.cd.kt (noLists_map cord_noList _) (KT.kept k h.pt) (fun o e => k _ _ n2 e), h.kp.trans k, hp, h.lo⟩
theorem Dr.fresh {K : PySem.W.Frag} {H G : Hp} {p kl cl a : Addr} {ks : List Knot} {cs : List Wr} (h : Dr K H G p kl cl ks cs) (n : G a = none) : a ≠ p ∧ a ≠ kl ∧ a ≠ cl ∧ H a = none := by
  obtain ⟨_, h1, _⟩ := h.kn
  obtain ⟨_, h2, _⟩ := h.cd
  exact ⟨h.pt.ne n, (ne_of_none h1 n).symm, (ne_of_none h2 n).symm, h.kp.free h.pt n⟩
/-- one more knot -/
theorem Dr.addK {K : PySem.W.Frag} {H G : Hp} {p kl cl : Addr} {ks : List Knot} {cs : List Wr} (h : Dr K H G p kl cl ks cs) (n1 : kl ≠ p) (n2 : kl ≠ cl) (n0 : H kl = none) {kv : List V} {v : V} {t : Knot} (hk : G kl = some (.lst kv)) (dk : DpAll K G kv (ks.map knotD)) (dv : Dp K G v (knotD t)) (lo : SpecLo t.2) : Dr K H (L2.upd G kl (.lst (kv ++ [v]))) p kl cl (ks ++ [t]) cs := by
  have kt : KT K G (L2.upd G kl (.lst (kv ++ [v]))) := KT.lst hk
  refine ⟨⟨_, upd_same, ?_⟩, h.cd.kt (noLists_map cord_noList _) kt (fun o e => by rw [upd_ne n2.symm]; exact e), h.kp.past n0, h.pt.upd n1, fun k hk => ?_⟩
  · rw [List.map_append]
    exact DpAll.snoc (Dp.kt kt (knot_noList t) dv) (DpAll.kt kt (noLists_map knot_noList _) dk)
  · rcases List.mem_append.mp hk with hk | hk
    · exact h.lo k hk
    · rw [List.mem_singleton.mp hk]
      exact lo
theorem Dr.putC {K : PySem.W.Frag} {H G : Hp} {p kl cl : Addr} {ks : List Knot} {cs cs' : List Wr} (h : Dr K H G p kl cl ks cs) (n1 : cl ≠ p) (n2 : kl ≠ cl) (n0 : H cl = none) {cv cv' : List V} (hc : G cl = some (.lst cv)) (dc : DpAll K G cv' (cs'.map cordD)) : Dr K H (L2.upd G cl (.lst cv')) p kl cl ks cs' := by
  have kt : KT K G (L2.upd G cl (.lst cv')) := KT.lst hc
  exact ⟨h.kn.kt (noLists_map knot_noList _) kt (fun o e => by rw [upd_ne n2]; exact e), ⟨_, upd_same, DpAll.kt kt (noLists_map cord_noList _) dc⟩, h.kp.past n0, h.pt.upd n1, h.lo⟩
theorem good_of {K : PySem.W.Frag} {H : Hp} {α : Type} {f : α → PyData} {ks : List α} {vs : List V} (h : DpAll K H vs (ks.map f)) (g : ∀ k ∈ ks, noList (f k) = true ∧ PyData.canLay0 (f k) = true ∧ (f k).depth ≤ 5) : ∀ v ∈ vs, GoodV K H v := fun v hv => by
  obtain ⟨i, ei⟩ := List.getElem?_of_mem hv
  obtain ⟨k, ek, dk⟩ := DpAll.map h ei
  obtain ⟨g1, g2, g3⟩ := g k (List.mem_of_getElem? ek)
  exact ⟨_, dk, g1, g2, g3⟩
theorem DpAll.set {K : PySem.W.Frag} {H : Hp} {v : V} {d : PyData} (h : Dp K H v d) : ∀ {vs : List V} {ds : List PyData} {i : Nat}, DpAll K H vs ds → DpAll K H (vs.set i v) (ds.set i d)
  | _, _, _, .nil => .nil
  | _, _, 0, .cons _ a => .cons h a
  | _, _, i + 1, .cons g a => .cons g (DpAll.set h a)
theorem two_at {a b c : Int} {lg : Bool} (a0 : 0 ≤ a) (a1 : a < 7) (b0 : 0 ≤ b) (b1 : b < 24) (c0 : 0 ≤ c) (c1 : c < 6) :
    ∃ n : Nat, atI [V.int (1 + a), V.int (1 + b)] (if c / 5 > (if lg then 1 else 0) then c / 5 else (if lg then 1 else 0)) = some (.int (n : Int)) ∧ n ≤ 24 ∧ 1 ≤ n := by
  have : (if c / 5 > (if lg then 1 else 0) then c / 5 else (if lg then 1 else 0) : Int) = 0 ∨ (if c / 5 > (if lg then 1 else 0) then c / 5 else (if lg then 1 else 0) : Int) = 1 := by
    cases lg
    · simp only [Bool.false_eq_true, if_false]
      split <;> omega
    · simp only [if_true]
      split <;> omega
  rcases this with e | e
  · rw [e]
    exact ⟨(1 + a).toNat, by rw [Int.toNat_of_nonneg (by omega)]; rfl, by omega, by omega⟩
  · rw [e]
    exact ⟨(1 + b).toNat, by rw [Int.toNat_of_nonneg (by omega)]; rfl, by omega, by omega⟩
theorem ixN_nat {n k : Nat} (h : k < n) : ixN n (k : Int) = some k := by
  unfold ixN
  simp
  omega
theorem delay_at {e d : Int} (e0 : 0 ≤ e) (e1 : e < 20) (d0 : 0 ≤ d) (d1 : d < 4) : ∃ n : Nat, atI [V.int 0, V.int 1, V.int e, V.int 9999] d = some (.int (n : Int)) ∧ n ≤ 9999 := by
  have : d = 0 ∨ d = 1 ∨ d = 2 ∨ d = 3 := by omega
  rcases this with rfl | rfl | rfl | rfl
  · exact ⟨0, rfl, by decide⟩
  · exact ⟨1, rfl, by decide⟩
  · exact ⟨e.toNat, by rw [Int.toNat_of_nonneg e0]; rfl, by omega⟩
  · exact ⟨9999, rfl, by decide⟩
theorem cut_last1 {xs : List V} (h : xs ≠ []) : ∃ y ∈ xs, cutV xs (some (-1)) none = [y] := by
  have l := List.length_pos_iff.mpr h
  have e : cutV xs (some (-1)) none = xs.drop (xs.length - 1) := by
    unfold cutV
    rw [HT.sIx_none]
    have e1 : HT.sIx xs.length 0 (some (-1)) = xs.length - 1 := by
      show (if (-1 : Int) < 0 then ((-1 : Int) + (xs.length : Int)).toNat else min (-1 : Int).toNat xs.length) = _
      rw [if_pos (by decide)]
      omega
    rw [e1, List.take_of_length_le]
    rw [List.length_drop]
    exact Nat.le_refl _
  refine ⟨xs[xs.length - 1], List.getElem_mem _, ?_⟩
  rw [e, List.drop_eq_getElem_cons (by omega)]
  congr 1
  apply List.drop_of_length_le
  omega
def spDrawn (K : PySem.W.Frag) : Sp := fun vs H Q _ => ∃ p : Addr, vs = [.ref p] ∧ PotAt H p ∧ ∀ (t kl cl : Addr) (ks : List Knot) (cs : List Wr) (H' : Hp), Kept p H H' → PotAt H' p → SqT K H' t [.ref kl, .ref cl] → ListD K H' kl (ks.map knotD) → ListD K H' cl (cs.map cordD) → H kl = none → H cl = none → kl ≠ cl → Web ks cs → ks.length ≤ 24 → cs.length ≤ 48 → ks ≠ [] → (∀ k ∈ ks, SpecLo k.2) → Q (.ref t) H'
section
variable {P : Program} {w : World} {K : PySem.W.Frag} {mg : Str → Option Value} {base : Heap} {f f1 f2 f3 f4 f5 f6 f7 f8 f9 C CN CO CI CW : Addr} {fd fd1 fd2 fd3 fd4 fd5 fd6 fd7 fd8 fd9 : FuncData}
abbrev nLDrawn : List Str := ["_law_pot_here", "_law_knots", "_law_cords", "_law_is_long", "_law_k", "_law_tag", "_law_spec_here", "_law_ahead", "_law_place", "_law_delay", "_law_at", "_law_other_here", "_law_one"]
theorem scLDrawn : FnScope nLDrawn ["_law_pot_here"] (defScope sLDrawn) := ⟨rfl, rfl, rfl, by decide +kernel, rfl, by decide +kernel, by decide +kernel⟩
theorem ok_drawn (F : FnP K "_law_drawn" sLDrawn f fd) (GT : FnOk P w K mg base CX0 1 f1 fd1 ["_law_pot_here", "_law_many"] spTake) (gT : mg "_law_take" = some (.ref f1)) (kT : PySem.W.keepIn K (.ref f1) = true) (bT : Binds K fd1 ["_law_pot_here", "_law_many"] [])
    (GN : FnOk P w K mg base CX0 2 f2 fd2 ["_law_pot_here", "_law_taken"] spLName) (gN : mg "_law_name" = some (.ref f2)) (kN : PySem.W.keepIn K (.ref f2) = true) (bN : Binds K fd2 ["_law_pot_here", "_law_taken"] [])
    (GS : FnOk P w K mg base CX0 2 f3 fd3 ["_law_pot_here"] (spSpec K)) (gS : mg "_law_spec" = some (.ref f3)) (kS : PySem.W.keepIn K (.ref f3) = true) (bS : Binds K fd3 ["_law_pot_here"] [])
    (GK : FnOk P w K mg base CX0 1 f4 fd4 ["_law_spec_here"] (spTakes K)) (gK : mg "_law_takes" = some (.ref f4)) (kK : PySem.W.keepIn K (.ref f4) = true) (bK : Binds K fd4 ["_law_spec_here"] [])
    (GO : FnOk P w K mg base CX0 1 f5 fd5 ["_law_knots"] (spSources K)) (gO : mg "_law_sources" = some (.ref f5)) (kO : PySem.W.keepIn K (.ref f5) = true) (bO : Binds K fd5 ["_law_knots"] [])
    (GP : FnOk P w K mg base CX0 2 f6 fd6 ["_law_pot_here", "_law_some"] (spPick K)) (gP : mg "_law_pick" = some (.ref f6)) (kP : PySem.W.keepIn K (.ref f6) = true) (bP : Binds K fd6 ["_law_pot_here", "_law_some"] [])
    (GU : FnOk P w K mg base CX0 2 f7 fd7 ["_law_pot_here", "_law_row"] (spTurned K)) (gU : mg "_law_turned" = some (.ref f7)) (kU : PySem.W.keepIn K (.ref f7) = true) (bU : Binds K fd7 ["_law_pot_here", "_law_row"] [])
    (gRange : mg "range" = none) (gMax : mg "max" = none) (gInt : mg "int" = none) (gLen : mg "len" = none) : FnOk P w K mg base CX0 3 f fd ["_law_pot_here"] (spDrawn K) := by
  refine F.ok scLDrawn (fun vs H Q E h => ?_) (fun cdv A ou s H vs Q E hr h => ?_)
  · obtain ⟨p, rfl, _⟩ := h
    rfl
  · obtain ⟨p, rfl, hp, kk⟩ := h
    have nd := scLDrawn.nd
    have hr2 : Room 2 _ := hr
    have hr1 : Room 1 _ := hr.mono (by decide)
    refine ⟨_, PSs.nox (pss_cons (ps_par (i := 1) (j := 2) rfl nd rfl rfl (by decide) rfl rfl (pa_cons (pe_lst pa_nil) (pa_cons (pe_lst pa_nil) pa_nil)) rfl)
      (pss_cons (ps_set (i := 3) nd rfl (Or.inl rfl) (pe_cmpR op_eq (pe_call GT hr1 rfl gT kT bT .nil pass0 (pa_cons (pv 0) (pa_cons pe_int pa_nil))) pe_int (nomark _)))
      (pss_cons (ps_for PassesOwn.never rfl (pi_range1 rfl gRange (pa_cons (pe_ix ix_list (pe_lst (pa_cons (pe_op op_add pe_int (pe_call GT hr1 rfl gT kT bT .nil pass0 (pa_cons (pv 0) (pa_cons pe_int pa_nil)))) (pa_cons (pe_op op_add pe_int (pe_call GT hr1 rfl gT kT bT .nil pass0 (pa_cons (pv 0) (pa_cons pe_int pa_nil)))) pa_nil))) (pe_callB (call_max2 rfl) (by rfl) gMax (by decide +kernel) (pa_cons (pe_callTy call_int1 (by rfl) gInt PyProof.Rows.boot_int (pa_cons (pv 3) pa_nil)) (pa_cons (pe_op op_fdiv (pe_call GT hr1 rfl gT kT bT .nil pass0 (pa_cons (pv 0) (pa_cons pe_int pa_nil))) pe_int) pa_nil))) (fun _ _ => rfl)) pa_nil)) (pg_name (i := 4) nd rfl (Or.inl rfl))
      (pss_cons (ps_par (i := 5) (j := 6) rfl nd rfl rfl (by decide) rfl rfl (pa_cons (pe_call GN hr2 rfl gN kN bN .nil pass0 (pa_cons (pv 0) (pa_cons (pe_lc (own := [("_law_other_here", 11), ("_law_one", 12)]) (g := (gTup K 2 (gCons (gName 11) (gCons (gName 12) gNil)))) (tt := tYes) rfl nd (pi_list (pv 1)) (blkOk_by (N := nLDrawn) (sc := defScope sLDrawn) (by decide +kernel))
        (fun _ _ _ _ _ => (pg_tup rfl (pgs_cons (pg_name (i := 11) nd rfl (Or.inl rfl)) (pgs_cons (pg_name (i := 12) nd rfl (Or.inl rfl)) pgs_nil)))) (fun _ _ _ _ _ => pts_nil) (fun _ _ _ _ _ => (pv 11))) pa_nil))) (pa_cons (pe_call GS hr2 rfl gS kS bS .nil pass0 (pa_cons (pv 0) pa_nil)) pa_nil)) rfl)
      (C8.pss_cut (ps_if (PW.pt (pw_or (pt_cmpR op_eq (pv 4) pe_int (nomark _)) (pw_or (pt_cmpR op_eq (pe_call GT hr1 rfl gT kT bT .nil pass0 (pa_cons (pv 0) (pa_cons (pe_op op_add pe_int (pe_op op_mul pe_int (pe_callTy call_int1 (by rfl) gInt PyProof.Rows.boot_int (pa_cons (pv 3) pa_nil)))) pa_nil))) pe_int (nomark _)) (pw_or1 (pt_cmpR op_gt (pe_op op_add (pe_callB call_len_seq (by rfl) gLen PySem.boot_len (pa_cons (pv 2) pa_nil)) (pe_callB call_len_seq (by rfl) gLen PySem.boot_len (pa_cons (pe_call GK hr1 rfl gK kK bK .nil pass0 (pa_cons (pv 6) pa_nil)) pa_nil))) pe_int (nomark _)))))) (pss_one (ps_set (i := 6) nd rfl (Or.inl rfl) (pe_tup (pa_cons pe_str pa_nil)))) pss_nil)
      (pss_cons (ps_set (i := 7) nd rfl (Or.inl rfl) (pe_call GO hr1 rfl gO kO bO .nil pass0 (pa_cons (pv 1) pa_nil)))
      (C8.pss_cut (ps_if (pt_val (pv 3)) (pss_one (ps_set (i := 7) nd rfl (Or.inl rfl) (pe_slice sl_list (pv 7) (po_some (pe_un un_neg pe_int)) po_none))) pss_nil)
      (pss_cons (ps_expr (pe_bm PySem.F.plainAttrs_list PySem.F.slot_list_append PySem.F.type_list_append mt_append (pv 1) (pa_cons (pe_tup (pa_cons (pv 5) (pa_cons (pv 6) pa_nil))) pa_nil)))
      (pss_one (ps_for PassesOwn.never rfl (pi_range1 rfl gRange (pa_cons (pe_callB call_len_seq (by rfl) gLen PySem.boot_len (pa_cons (pe_call GK hr1 rfl gK kK bK .nil pass0 (pa_cons (pv 6) pa_nil)) pa_nil)) pa_nil)) (pg_name (i := 8) nd rfl (Or.inl rfl))
      (pss_cons (ps_set (i := 9) nd rfl (Or.inl rfl) (pe_ix ix_list (pe_lst (pa_cons pe_int (pa_cons pe_int (pa_cons (pe_call GT hr1 rfl gT kT bT .nil pass0 (pa_cons (pv 0) (pa_cons pe_int pa_nil))) (pa_cons pe_int pa_nil))))) (pe_call GT hr1 rfl gT kT bT .nil pass0 (pa_cons (pv 0) (pa_cons pe_int pa_nil))) (fun _ _ => rfl)))
      (pss_one (ps_expr (pe_bm PySem.F.plainAttrs_list PySem.F.slot_list_append PySem.F.type_list_append mt_append (pv 2) (pa_cons (pe_tup (pa_cons (pe_call GP hr2 rfl gP kP bP .nil pass0 (pa_cons (pv 0) (pa_cons (pe_ifExp (pt_cmpR op_eq (pv 8) pe_int (nomark _)) (pv 7) (pe_call GO hr1 rfl gO kO bO .nil pass0 (pa_cons (pv 1) pa_nil))) pa_nil))) (pa_cons (pv 5) (pa_cons (pv 8) (pa_cons (pv 9) pa_nil))))) pa_nil)))))))))))))
      (pss_cons (ps_for PassesOwn.never rfl (pi_range1 rfl gRange (pa_cons (pe_callB call_len_seq (by rfl) gLen PySem.boot_len (pa_cons (pv 2) pa_nil)) pa_nil)) (pg_name (i := 10) nd rfl (Or.inl rfl))
      (pss_one (ps_if (PW.pt (pw_and (pt_cmpR op_gt (pe_ix ix_tup (pe_ix ix_list (pv 2) (pv 10) (fun _ _ => rfl)) pe_int (fun _ _ => rfl)) pe_int (nomark _)) (pw_and1 (pt_cmpR op_eq (pe_call GT hr1 rfl gT kT bT .nil pass0 (pa_cons (pv 0) (pa_cons pe_int pa_nil))) pe_int (nomark _))))) (pss_one (ps_asg (pe_op op_catA (pe_tup (pa_cons (pe_call GP hr2 rfl gP kP bP .nil pass0 (pa_cons (pv 0) (pa_cons (pe_call GO hr1 rfl gO kO bO .nil pass0 (pa_cons (pv 1) pa_nil)) pa_nil))) pa_nil)) (pe_slice sl_tupA (pe_ix ix_list (pv 2) (pv 10) (fun _ _ => rfl)) (po_some pe_int) po_none)) (pg_sub (pv 2) (pv 10) set_list (by intro _; rfl)))) pss_nil)))
      (pss_one (ps_ret (pe_tup (pa_cons (pe_call GU hr2 rfl gU kU bU .nil pass0 (pa_cons (pv 0) (pa_cons (pv 1) pa_nil))) (pa_cons (pe_call GU hr2 rfl gU kU bU .nil pass0 (pa_cons (pv 0) (pa_cons (pv 2) pa_nil))) pa_nil))))))))), ?_⟩
    refine ⟨(by show 0 ≤ sizeLine; decide), fun kl0 fk0 => ⟨(by show 0 ≤ sizeLine; decide), fun cl0 fc1 => ⟨_, _, rfl, ?_⟩⟩⟩
    have s1 := Same.new (o := .lst []) (Same.refl H) fk0
    have hk1 : (upd H kl0 (.lst [])) kl0 = some (.lst []) := upd_same
    generalize upd H kl0 (.lst []) = H1 at s1 hk1 fc1
    have s2 := Same.new (o := .lst []) (Same.refl H1) fc1
    have hc2 : (upd H1 cl0 (.lst [])) cl0 = some (.lst []) := upd_same
    have nkc : kl0 ≠ cl0 := ne_of_none hk1 fc1
    have fc0 : H cl0 = none := s1.free fc1
    have nkp : kl0 ≠ p := hp.ne fk0
    have ncp : cl0 ≠ p := hp.ne fc0
    generalize upd H1 cl0 (.lst []) = H2 at s2 hc2
    have dr0 : Dr K H H2 p kl0 cl0 [] [] := ⟨⟨[], s2 _ _ hk1, .nil⟩, ⟨[], hc2, .nil⟩, Kept.same (s1.trans s2), hp.keep (s1.trans s2), fun _ h => (List.not_mem_nil h).elim⟩
    -- whether it is long
    refine ⟨_, rfl, p, _, rfl, dr0.pt, by decide, by decide, fun d0 H3 _ _ k3 hp3 => ⟨rfl, ?_⟩⟩
    have dr3 := dr0.kept nkp ncp k3 hp3
    generalize decide (V.int d0 = V.int 0) = lg
    -- how many
    refine ⟨_, rfl, p, _, rfl, dr3.pt, by decide, by decide, fun a H4 a0 a1 k4 hp4 => ⟨_, _, rfl, rfl, ?_⟩⟩
    have dr4 := dr3.kept nkp ncp k4 hp4
    refine ⟨_, rfl, p, _, rfl, dr4.pt, by decide, by decide, fun b H5 b0 b1 k5 hp5 => ⟨_, _, rfl, rfl, ?_⟩⟩
    have dr5 := dr4.kept nkp ncp k5 hp5
    refine ⟨(by show 2 ≤ sizeLine; decide), fun lq hlq => ?_⟩
    have s6 := Same.new (o := .lst [V.int (1 + a), V.int (1 + b)]) (Same.refl H5) hlq
    have hq6 : (upd H5 lq (.lst [V.int (1 + a), V.int (1 + b)])) lq = some (.lst [V.int (1 + a), V.int (1 + b)]) := upd_same
    have nlq := (dr5.fresh hlq).1
    generalize upd H5 lq (.lst [V.int (1 + a), V.int (1 + b)]) = H6 at s6 hq6
    have dr6 := dr5.same s6
    refine ⟨_, rfl, .inr ⟨lg, rfl, ?_⟩⟩
    refine ⟨_, rfl, p, _, rfl, dr6.pt, by decide, by decide, fun c H7 c0 c1 k7 hp7 => ⟨_, _, rfl, rfl, ⟨by decide, by decide⟩, ?_⟩⟩
    have dr7 := dr6.kept nkp ncp k7 hp7
    obtain ⟨n, en, n24, n1⟩ := two_at (lg := lg) a0 a1 b0 b1 c0 c1
    refine ⟨_, _, rfl, lq, _, _, _, rfl, rfl, SqL.of (k7 _ _ nlq hq6), en, ?_⟩
    refine ⟨_, rfl, by omega, by omega, ?_⟩
    rw [Int.toNat_natCast]
    refine for_range (fun i σ G => ∃ (w4 w5 w6 w7 w8 w9 : Option V) (ks : List Knot) (cs : List Wr), σ = [some (.ref p), some (.ref kl0), some (.ref cl0), some (.bl lg), w4, w5, w6, w7, w8, w9, none, none, none] ∧ Dr K H G p kl0 cl0 ks cs ∧ Web ks cs ∧ ks.length = i ∧ cs.length ≤ 48) ⟨_, _, _, _, _, _, [], [], rfl, dr7, Web.nil, rfl, by decide⟩ ?_ ?_
    · rintro i σ G il ⟨w4, w5, w6, w7, w8, w9, ks, cs, rfl, dr, web, ek, fewc⟩
      obtain ⟨kv, hk, dk⟩ := dr.kn
      have kvl : kv.length = ks.length := by rw [DpAll.len dk, List.length_map]
      -- the name
      refine ⟨_, rfl, _, rfl, kl0, rfl, ⟨_, SqL.of hk⟩, fun D hD => ?_⟩
      obtain ⟨nDp, nDk, nDc, fD⟩ := dr.fresh hD
      refine lc_list (xs := kv) (fun j H' => H' D = some (.lst (((ks.map (·.1)).take j).map V.str)) ∧ Same G H') ⟨by rw [List.take_zero]; exact upd_same, Same.past (Same.refl _) hD⟩ (fun j H' _ e => SqL.of (e.2 _ _ hk)) (fun j v H' ev e => ?_) (fun G1 e => ?_)
      · obtain ⟨hd, sm⟩ := e
        obtain ⟨k, ekj, dkj⟩ := DpAll.map dk ev
        obtain ⟨q, sv, rfl, hq, _⟩ := knot_inv dkj
        have jl := (List.getElem?_eq_some_iff.mp ekj).1
        refine ⟨q, _, rfl, Same.tup sm hq, rfl, _, _, rfl, _, _, rfl, rfl, rfl, ?_⟩
        refine yes_ite ?_
        refine ⟨_, rfl, _, hd, ?_, ?_, Same.past sm hD⟩
        · rw [List.length_map, List.length_take, List.length_map]
          exact Nat.lt_of_lt_of_le (show _ < 100 by omega) (by decide)
        · rw [List.take_succ, List.getElem?_map, ekj, List.map_append]
          exact upd_same
      · obtain ⟨hd, sm⟩ := e
        rw [List.take_of_length_le (by rw [List.length_map]; omega)] at hd
        have dr1 := dr.same sm
        refine ⟨p, D, ks.map (·.1), rfl, nDp, dr1.pt, hd, (by rw [List.length_map]; omega), (fun t ht => by
          obtain ⟨k, hk, rfl⟩ := List.mem_map.mp ht
          exact web.b.nm k hk), fun x G2 xok xnin k2 hp2 => ?_⟩
        have dr2 := dr1.kept nkp ncp k2 hp2
        -- the spec
        refine ⟨_, rfl, p, rfl, dr2.pt, fun sv sp G3 spok k3 hp3 spat => ?_⟩
        have dr3 := dr2.kept nkp ncp k3 hp3
        refine ⟨_, _, rfl, ?_⟩
        refine ⟨fun σ' G' => ∃ (sv' : V) (sp' : Spec), σ' = [some (.ref p), some (.ref kl0), some (.ref cl0), some (.bl lg), some (.int ((0 : Int) + (i : Int))), some (.str x), some sv', w7, w8, w9, none, none, none] ∧ Dr K H G' p kl0 cl0 ks cs ∧ SpecLo sp' ∧ SpecAt K G' sv' sp' ∧ (ks = [] → sp' = .inlet) ∧ cs.length + (tks sp').length ≤ 48, ?_, ?_⟩
        · have inl : ∀ G', Dr K H G' p kl0 cl0 ks cs → ∀ t, G' t = none → ∃ (sv' : V) (sp' : Spec), [some (V.ref p), some (.ref kl0), some (.ref cl0), some (.bl lg), some (.int ((0 : Int) + (i : Int))), some (.str x), some (.ref t), w7, w8, w9, none, none, none] = [some (.ref p), some (.ref kl0), some (.ref cl0), some (.bl lg), some (.int ((0 : Int) + (i : Int))), some (.str x), some sv', w7, w8, w9, none, none, none] ∧ Dr K H (upd G' t (.tup [V.str "inlet"])) p kl0 cl0 ks cs ∧ SpecLo sp' ∧ SpecAt K (upd G' t (.tup [V.str "inlet"])) sv' sp' ∧ (ks = [] → sp' = .inlet) ∧ cs.length + (tks sp').length ≤ 48 := fun G' d t ht => ⟨.ref t, .inlet, rfl, d.same (Same.new (Same.refl _) ht), trivial, .tup (.inl (.inl upd_same)) (.cons (.str _) .nil), fun _ => rfl, fewc⟩
          refine ⟨_, rfl, rfl, _, rfl, ?_⟩
          refine ite2 (fun _ => ?_) (fun ni => ?_)
          · exact iteT_ rfl ⟨(by show 1 ≤ sizeLine; decide), fun t ht => inl _ dr3 t ht⟩
          have ine : ks ≠ [] := fun z => by
            rw [z] at ek
            exact ni (by rw [← ek]; rfl)
          refine ⟨_, rfl, _, rfl, .inr ⟨lg, rfl, ⟨_, _, rfl, rfl, .inl ⟨by decide, by decide⟩, _, _, rfl, rfl, ?_⟩⟩⟩
          have lgb : (0 : Int) ≤ (if lg then 1 else 0) ∧ (if lg then 1 else 0 : Int) ≤ 1 := by cases lg <;> decide
          refine ⟨p, _, rfl, dr3.pt, by omega, by omega, fun e4 G4 _ _ k4 hp4 => ⟨rfl, _, rfl, ?_⟩⟩
          have dr4 := dr3.kept nkp ncp k4 hp4
          refine ite2 (fun _ => ?_) (fun _ => ?_)
          · exact iteT_ rfl ⟨(by show 1 ≤ sizeLine; decide), fun t ht => inl _ dr4 t ht⟩
          obtain ⟨cv4, hc4, dc4⟩ := dr4.cd
          have cl4 : cv4.length = cs.length := by rw [DpAll.len dc4, List.length_map]
          refine ⟨_, rfl, cl0, _, rfl, .inl (SqL.of hc4), _, rfl, sv, sp, rfl, spat.kt (KT.kept k4 dr3.pt), spok.ok, fun q G5 s5 hq => ⟨q, _, rfl, .inr hq, _, _, rfl, rfl, _, _, rfl, rfl, _, rfl, ?_⟩⟩
          refine ite2 (fun _ => ?_) (fun le => ?_)
          · exact ⟨(by show 1 ≤ sizeLine; decide), fun t ht => inl _ (dr4.same s5) t ht⟩
          · have le := of_decide_eq_false (Bool.eq_false_iff.mpr le)
            rw [List.length_map, cl4] at le
            exact ⟨sv, sp, rfl, dr4.same s5, spok, (spat.kt (KT.kept k4 dr3.pt)).kt (KT.same s5), fun z => absurd z ine, by omega⟩
        · rintro σ' G4 ⟨sv4, sp4, rfl, dr4, slo4, sat4, fst4, few4⟩
          have sok4 := slo4.ok
          obtain ⟨kv4, hk4, dk4⟩ := dr4.kn
          -- what is ahead
          refine ⟨_, rfl, kl0, kv4, ks, rfl, hk4, dk4, (by omega), fun la G5 fla s5 hla => ?_⟩
          have dr5 := dr4.same s5
          have sat5 := sat4.kt (KT.same s5)
          obtain ⟨nlp, nlk, nlc, fla0⟩ := dr4.fresh fla
          refine ⟨fun σ' G' => ∃ (la : Addr) (ah : List Str), σ' = [some (.ref p), some (.ref kl0), some (.ref cl0), some (.bl lg), some (.int ((0 : Int) + (i : Int))), some (.str x), some sv4, some (.ref la), w8, w9, none, none, none] ∧ Dr K H G' p kl0 cl0 ks cs ∧ SpecAt K G' sv4 sp4 ∧ G' la = some (.lst (strL ah)) ∧ la ≠ p ∧ la ≠ kl0 ∧ la ≠ cl0 ∧ (∀ y ∈ ah, y ∈ srcN ks) ∧ (ks ≠ [] → ah ≠ []) ∧ ah.length ≤ 24, ?_, ?_⟩
          · refine ⟨_, rfl, _, rfl, ?_⟩
            refine ite2 (fun _ => ?_) (fun _ => ?_)
            · refine ⟨_, rfl, _, rfl, _, rfl, la, _, rfl, SqL.of hla, fun l2 hl2 => ?_⟩
              obtain ⟨n1, n2, n3, _⟩ := dr5.fresh hl2
              have s6 := Same.new (o := .lst (cutV (strL (srcN ks)) (some (-1)) none)) (Same.refl G5) hl2
              by_cases z : srcN ks = []
              · refine ⟨l2, [], rfl, dr5.same s6, sat5.kt (KT.same s6), ?_, n1, n2, n3, fun y h => (List.not_mem_nil h).elim, fun q => absurd z (src_ne (web.b.hd q)), by decide⟩
                show upd G5 l2 _ l2 = _
                rw [upd_same, z]
                rfl
              · obtain ⟨y, ym, ey⟩ := cut_last1 (xs := strL (srcN ks)) (fun q => z (by unfold strL at q; exact List.map_eq_nil_iff.mp q))
                obtain ⟨y, yin, rfl⟩ := List.mem_map.mp ym
                refine ⟨l2, [y], rfl, dr5.same s6, sat5.kt (KT.same s6), ?_, n1, n2, n3, fun y' h => by rw [List.mem_singleton.mp h]; exact yin, fun _ => by simp, by show 1 ≤ 24; decide⟩
                show upd G5 l2 _ l2 = _
                rw [upd_same]
                exact congrArg (fun z => some (HO.lst z)) ey
            · exact ⟨la, srcN ks, rfl, dr5, sat5, hla, nlp, nlk, nlc, fun y h => h, fun z => src_ne (web.b.hd z), Nat.le_trans srcN_len (by omega)⟩
          · rintro σ' G6 ⟨la, ah, rfl, dr6, sat6, hla6, nla0, nlak, nlac, ahin, ahne, ahl⟩
            obtain ⟨kv6, hk6, dk6⟩ := dr6.kn
            have kl6 : kv6.length = ks.length := by rw [DpAll.len dk6, List.length_map]
            -- one more knot
            refine ⟨_, rfl, .inl ⟨rfl, _, SqL.of hk6⟩, _, rfl, _, rfl, (by show 2 ≤ sizeLine; decide), fun t ht => ?_⟩
            have s7 := Same.new (o := .tup [V.str x, sv4]) (Same.refl G6) ht
            have dr7 := dr6.same s7
            refine ⟨kl0, _, _, rfl, rfl, s7 _ _ hk6, ?_, ?_⟩
            · exact Nat.lt_of_lt_of_le (show kv6.length < 100 by omega) (by decide)
            have dr8 := dr7.addK (t := (x, sp4)) nkp nkc fk0 (s7 _ _ hk6) (DpAll.keep s7 dk6) (v := .ref t) (.tup (.inl (.inl upd_same)) (.cons (.str _) (.cons (Dp.kt (KT.same s7) (spec_noList sp4) sat6) .nil))) slo4
            have sat8 : SpecAt K (upd (upd G6 t (.tup [V.str x, sv4])) kl0 (.lst (kv6 ++ [.ref t]))) sv4 sp4 := (sat6.kt (KT.same s7)).kt (KT.lst (s7 _ _ hk6))
            have hla8 : (upd (upd G6 t (.tup [V.str x, sv4])) kl0 (.lst (kv6 ++ [.ref t]))) la = some (.lst (strL ah)) := by
              rw [upd_ne nlak]
              exact s7 _ _ hla6
            generalize upd (upd G6 t (.tup [V.str x, sv4])) kl0 (.lst (kv6 ++ [.ref t])) = G8 at dr8 sat8 hla8
            have mid0 : Mid ks cs (x, sp4) 0 cs.length := web.mid xnin xok sok4 fst4
            -- its places
            refine ⟨_, rfl, sv4, sp4, rfl, sat8, sok4, fun q G9 s9 hq => ⟨q, _, rfl, .inr hq, _, rfl, by rw [List.length_map]; omega, by rw [List.length_map]; omega, ?_⟩⟩
            rw [List.length_map, Int.toNat_natCast]
            refine for_range (fun j σ G => ∃ (w8 w9 : Option V) (cs1 : List Wr), σ = [some (.ref p), some (.ref kl0), some (.ref cl0), some (.bl lg), some (.int ((0 : Int) + (i : Int))), some (.str x), some sv4, some (.ref la), w8, w9, none, none, none] ∧ Dr K H G p kl0 cl0 (ks ++ [(x, sp4)]) cs1 ∧ Mid ks cs1 (x, sp4) j cs.length ∧ G la = some (.lst (strL ah))) ⟨_, _, cs, rfl, dr8.same s9, mid0, s9 _ _ hla8⟩ ?_ ?_
            · rintro j σ G jl ⟨w8, w9, cs1, rfl, dj, md, hlaj⟩
              have l1 := md.len
              refine ⟨_, rfl, p, _, rfl, dj.pt, by decide, by decide, fun e G1 e0 e1 k1 hp1 => ?_⟩
              have d1 := dj.kept nkp ncp k1 hp1
              refine ⟨(by show 4 ≤ sizeLine; decide), fun lq hlq => ?_⟩
              have s2 := Same.new (o := .lst [V.int 0, V.int 1, V.int e, V.int 9999]) (Same.refl G1) hlq
              have hq2 : (upd G1 lq (.lst [V.int 0, V.int 1, V.int e, V.int 9999])) lq = some (.lst [V.int 0, V.int 1, V.int e, V.int 9999]) := upd_same
              have nlq := (d1.fresh hlq).1
              generalize upd G1 lq (.lst [V.int 0, V.int 1, V.int e, V.int 9999]) = G2 at s2 hq2
              have d2 := d1.same s2
              refine ⟨_, rfl, p, _, rfl, d2.pt, by decide, by decide, fun g G3 g0 g1 k3 hp3 => ?_⟩
              have d3 := d2.kept nkp ncp k3 hp3
              obtain ⟨dl, edl, dln⟩ := delay_at e0 e1 g0 g1
              refine ⟨lq, _, _, _, rfl, rfl, SqL.of (k3 _ _ nlq hq2), edl, ?_⟩
              have hla3 := k3 _ _ nla0 (s2 _ _ (k1 _ _ nla0 hlaj))
              obtain ⟨cv3, hc3, dc3⟩ := d3.cd
              refine ⟨_, rfl, .inl ⟨rfl, _, SqL.of hc3⟩, _, rfl, _, rfl, rfl, _, rfl, ?_⟩
              refine ite2 (fun jz => ?_) (fun jnz => ?_)
              · have j0 : j = 0 := by
                  have := of_decide_eq_true jz
                  injection this with this
                  omega
                have kne : ks ≠ [] := fun z => by
                  rw [show (tks ((x, sp4) : Knot).2) = [] by show tks sp4 = []; rw [fst4 z]; rfl] at jl
                  exact absurd jl (Nat.not_lt_zero _)
                refine ⟨_, rfl, ?_⟩
                refine ⟨p, la, _, rfl, (nla0).symm, d3.pt, SqL.of hla3, fun G' k' => SqL.of (k' _ _ nla0 hla3), ?_, ?_, fun y G6 ym k6 hp6 => ?_⟩
                · exact fun z => ahne kne (by unfold strL at z; exact List.map_eq_nil_iff.mp z)
                · unfold strL
                  rw [List.length_map]
                  exact (by omega)
                obtain ⟨y, yin, rfl⟩ := List.mem_map.mp ym
                have dr6 := d3.kept nkp ncp k6 hp6
                refine ⟨_, rfl, _, rfl, _, rfl, (by show 4 ≤ sizeLine; decide), fun t7 ht7 => ?_⟩
                have s7 := Same.new (o := .tup [V.str y, V.str x, V.int ((0 : Int) + (j : Int)), V.int (dl : Int)]) (Same.refl G6) ht7
                have dr7 := dr6.same s7
                obtain ⟨cv7, hc7, dc7⟩ := dr7.cd
                have cl7 : cv7.length = cs1.length := by rw [DpAll.len dc7, List.length_map]
                refine ⟨cl0, _, _, rfl, rfl, hc7, ?_, ?_⟩
                · exact Nat.lt_of_lt_of_le (show cv7.length < 100 by omega) (by decide)
                have la7 := s7 _ _ (k6 _ _ nla0 hla3)
                refine ⟨_, _, cs1 ++ [⟨y, x, j, dl⟩], rfl, dr7.putC ncp nkc fc0 hc7 ?_, md.step jl dln (by rw [if_pos j0]; exact ahin y yin), ?_⟩
                · rw [List.map_append]
                  refine DpAll.snoc (cord_mk ?_) dc7
                  rw [show ((0 : Int) + (j : Int)) = (j : Int) by omega]
                  exact .inl (.inl upd_same)
                · rw [upd_ne nlac]
                  exact la7
              · have j0 : j ≠ 0 := fun z => jnz (by rw [z]; rfl)
                obtain ⟨kv3, hk3, dk3⟩ := d3.kn
                refine ⟨_, rfl, kl0, kv3, ks ++ [(x, sp4)], rfl, hk3, dk3, (by rw [List.length_append]; show ks.length + 1 ≤ _; omega), fun lb G4 flb s4 hlb => ?_⟩
                have nlb := (d3.fresh flb).1
                have d4 := d3.same s4
                refine ⟨p, lb, _, rfl, (nlb).symm, d4.pt, SqL.of hlb, fun G' k' => SqL.of (k' _ _ nlb hlb), ?_, ?_, fun y G6 ym k6 hp6 => ?_⟩
                · exact fun z => src_ne (md.b.hd (by simp))  (by unfold strL at z; exact List.map_eq_nil_iff.mp z)
                · unfold strL
                  rw [List.length_map]
                  exact Nat.lt_of_le_of_lt srcN_len (by rw [List.length_append]; show ks.length + 1 < _; omega)
                obtain ⟨y, yin, rfl⟩ := List.mem_map.mp ym
                have dr6 := d4.kept nkp ncp k6 hp6
                refine ⟨_, rfl, _, rfl, _, rfl, (by show 4 ≤ sizeLine; decide), fun t7 ht7 => ?_⟩
                have s7 := Same.new (o := .tup [V.str y, V.str x, V.int ((0 : Int) + (j : Int)), V.int (dl : Int)]) (Same.refl G6) ht7
                have dr7 := dr6.same s7
                obtain ⟨cv7, hc7, dc7⟩ := dr7.cd
                have cl7 : cv7.length = cs1.length := by rw [DpAll.len dc7, List.length_map]
                refine ⟨cl0, _, _, rfl, rfl, hc7, ?_, ?_⟩
                · exact Nat.lt_of_lt_of_le (show cv7.length < 100 by omega) (by decide)
                have la7 := s7 _ _ (k6 _ _ nla0 (s4 _ _ hla3))
                refine ⟨_, _, cs1 ++ [⟨y, x, j, dl⟩], rfl, dr7.putC ncp nkc fc0 hc7 ?_, md.step jl dln (by rw [if_neg j0]; exact yin), ?_⟩
                · rw [List.map_append]
                  refine DpAll.snoc (cord_mk ?_) dc7
                  rw [show ((0 : Int) + (j : Int)) = (j : Int) by omega]
                  exact .inl (.inl upd_same)
                · rw [upd_ne nlac]
                  exact la7
            · rintro σ G ⟨w8, w9, cs1, rfl, dj, md, hlaj⟩
              have l1 := md.len
              exact ⟨_, _, _, _, _, _, _, cs1, rfl, dj, md.done, by rw [List.length_append]; show ks.length + 1 = _; omega, by omega⟩
    · rintro σ G ⟨w4, w5, w6, w7, w8, w9, ks, cs, rfl, dr, web, ek, fewc⟩
      obtain ⟨cv, hc, dc⟩ := dr.cd
      have cvl : cv.length = cs.length := by rw [DpAll.len dc, List.length_map]
      refine ⟨_, rfl, cl0, _, rfl, .inl (SqL.of hc), _, rfl, by omega, by omega, ?_⟩
      rw [Int.toNat_natCast]
      refine for_range (fun i σ G => ∃ (w4 w5 w6 w7 w8 w9 w10 : Option V) (cs1 : List Wr), σ = [some (.ref p), some (.ref kl0), some (.ref cl0), some (.bl lg), w4, w5, w6, w7, w8, w9, w10, none, none] ∧ Dr K H G p kl0 cl0 ks cs1 ∧ Web ks cs1 ∧ cs1.length = cs.length) ⟨_, _, _, _, _, _, _, cs, rfl, dr, web, rfl⟩ ?_ ?_
      · rintro i σ G il ⟨w4, w5, w6, w7, w8, w9, w10, cs1, rfl, d1, web1, l1⟩
        obtain ⟨cv1, hc1, dc1⟩ := d1.cd
        have cvl1 : cv1.length = cs1.length := by rw [DpAll.len dc1, List.length_map]
        have il1 : i < cv1.length := by omega
        obtain ⟨c, ec, dcc⟩ := DpAll.map dc1 (List.getElem?_eq_getElem il1)
        obtain ⟨q, eq, hq⟩ := cord_inv dcc
        have at1 : atI cv1 ((0 : Int) + (i : Int)) = some (.ref q) := by
          rw [Int.zero_add, ← eq]
          exact atI_nat (List.getElem?_eq_getElem il1)
        refine ⟨_, rfl, _, rfl, cl0, _, _, _, rfl, rfl, SqL.of hc1, at1, q, _, _, _, rfl, rfl, hq, atI_nat (j := 2) rfl, _, _, rfl, rfl, _, rfl, ?_⟩
        refine ite2 (fun pl => ?_) (fun _ => ?_)
        · have pl : (0 : Int) < (c.place : Int) := of_decide_eq_true pl
          refine ⟨_, rfl, p, _, rfl, d1.pt, by decide, by decide, fun e G2 _ _ k2 hp2 => ⟨rfl, _, rfl, ?_⟩⟩
          have d2 := d1.kept nkp ncp k2 hp2
          refine ite2 (fun _ => ?_) (fun _ => ?_)
          · obtain ⟨kv2, hk2, dk2⟩ := d2.kn
            refine ⟨_, rfl, _, rfl, kl0, kv2, ks, rfl, hk2, dk2, (by omega), fun lb G3 flb s3 hlb => ?_⟩
            have nlb := (d2.fresh flb).1
            have d3 := d2.same s3
            have hc3 : G3 cl0 = some (.lst cv1) := s3 _ _ (k2 _ _ ncp hc1)
            have kt3 : KT K G G3 := (KT.kept k2 d1.pt).trans (KT.same s3)
            refine ⟨p, lb, _, rfl, nlb.symm, d3.pt, SqL.of hlb, fun G' k' => SqL.of (k' _ _ nlb hlb), ?_, ?_, fun y G4 ym k4 hp4 => ?_⟩
            · have kne : ks ≠ [] := fun z => by
                obtain ⟨k, hk, _⟩ := web1.b.src c (List.mem_of_getElem? ec)
                rw [z] at hk
                cases hk
              exact fun z => src_ne (web1.b.hd kne) (by unfold strL at z; exact List.map_eq_nil_iff.mp z)
            · unfold strL
              rw [List.length_map]
              exact Nat.lt_of_le_of_lt srcN_len (by omega)
            obtain ⟨y, yin, rfl⟩ := List.mem_map.mp ym
            have d4 := d3.kept nkp ncp k4 hp4
            have hc4 := k4 _ _ ncp hc3
            have kt4 : KT K G G4 := kt3.trans (KT.kept k4 d3.pt)
            refine ⟨(by show 1 ≤ sizeLine; decide), fun t ht => ?_⟩
            have s5 := Same.new (o := .tup [V.str y]) (Same.refl G4) ht
            have ht5 : (upd G4 t (.tup [V.str y])) t = some (.tup [V.str y]) := upd_same
            generalize upd G4 t (.tup [V.str y]) = G5 at s5 ht5
            have kt5 : KT K G G5 := kt4.trans (KT.same s5)
            refine ⟨_, rfl, _, rfl, cl0, _, _, _, rfl, rfl, SqL.of (s5 _ _ hc4), at1, _, rfl, q, _, rfl, kt5 _ _ hq, fun z => absurd z.1 (by show ¬ (1 : Nat) = 0; decide), fun _ u hu => ?_⟩
            have e6 : cutV [V.str c.src, V.str c.goal, V.int (c.place : Int), V.int (c.delay : Int)] (some 1) none = [V.str c.goal, V.int (c.place : Int), V.int (c.delay : Int)] := rfl
            rw [e6]
            have s6 := Same.new (o := .tup [V.str c.goal, V.int (c.place : Int), V.int (c.delay : Int)]) (Same.refl G5) hu
            have hu6 : (upd G5 u (.tup [V.str c.goal, V.int (c.place : Int), V.int (c.delay : Int)])) u = some (.tup [V.str c.goal, V.int (c.place : Int), V.int (c.delay : Int)]) := upd_same
            generalize upd G5 u (.tup [V.str c.goal, V.int (c.place : Int), V.int (c.delay : Int)]) = G6 at s6 hu6
            refine ⟨t, u, _, _, rfl, rfl, .inl (.inl (s6 _ _ ht5)), .inl (.inl hu6), (by show 4 ≤ sizeLine; decide), (fun z => by cases z), (fun _ z => by cases z), fun _ _ r hr => ?_⟩
            have s7 := Same.new (o := .tup ([V.str y] ++ [V.str c.goal, V.int (c.place : Int), V.int (c.delay : Int)])) (Same.refl G6) hr
            have d7 := ((d4.same s5).same s6).same s7
            have hc7 := s7 _ _ (s6 _ _ (s5 _ _ hc4))
            refine ⟨_, rfl, _, rfl, cl0, _, _, i, rfl, rfl, hc7, ?_, ?_⟩
            · rw [Int.zero_add]
              exact ixN_nat il1
            refine ⟨_, _, _, _, _, _, _, cs1.set i ⟨y, c.goal, c.place, c.delay⟩, rfl, d7.putC ncp nkc fc0 hc7 ?_, web1.swap ec (by omega) yin, by rw [List.length_set]; exact l1⟩
            obtain ⟨cv7, hc7', dc7⟩ := d7.cd
            have : cv1 = cv7 := by
              rw [hc7'] at hc7
              injection hc7 with z
              injection z with z
              exact z.symm
            subst this
            rw [List.map_set]
            exact DpAll.set (d := cordD ⟨y, c.goal, c.place, c.delay⟩) (cord_mk (c := ⟨y, c.goal, c.place, c.delay⟩) (.inl (.inl upd_same))) dc7
          · exact ⟨_, _, _, _, _, _, _, cs1, rfl, d2, web1, l1⟩
        · exact iteF_ rfl ⟨_, _, _, _, _, _, _, cs1, rfl, d1, web1, l1⟩
      · rintro σ G ⟨w4, w5, w6, w7, w8, w9, w10, cs1, rfl, d1, web1, l1⟩
        obtain ⟨kv1, hk1, dk1⟩ := d1.kn
        have kvl1 : kv1.length = ks.length := by rw [DpAll.len dk1, List.length_map]
        refine ⟨_, rfl, _, rfl, p, kl0, kv1, rfl, d1.pt, hk1, good_of dk1 (fun k hk => ⟨knot_noList k, (knot_lay (web1.b.nm k hk)).1, Nat.le_trans (knot_lay (web1.b.nm k hk)).2 (by decide)⟩), by omega, fun l2 ys G2 pm2 f2 k2 hp2 h2 => ?_⟩
        have d2 := d1.kept nkp ncp k2 hp2
        obtain ⟨n2p, n2k, n2c, f20⟩ := d1.fresh f2
        obtain ⟨cv2, hc2, dc2⟩ := d2.cd
        have cvl2 : cv2.length = cs1.length := by rw [DpAll.len dc2, List.length_map]
        have nmok : ∀ c ∈ cs1, NmOk c.src ∧ NmOk c.goal := fun c hc => by
          obtain ⟨k, hk, e, _⟩ := web1.b.src c hc
          obtain ⟨k', hk', e', _⟩ := web1.b.goal c hc
          exact ⟨e ▸ web1.b.nm k hk, e' ▸ web1.b.nm k' hk'⟩
        refine ⟨_, rfl, _, rfl, p, cl0, cv2, rfl, d2.pt, hc2, good_of dc2 (fun c hc => ⟨cord_noList c, (cord_lay (nmok c hc).1 (nmok c hc).2).1, Nat.le_trans (cord_lay (nmok c hc).1 (nmok c hc).2).2 (by decide)⟩), by omega, fun l3 zs G3 pm3 f3 k3 hp3 h3 => ?_⟩
        obtain ⟨n3p, n3k, n3c, f30⟩ := d2.fresh f3
        have n23 : l2 ≠ l3 := ne_of_none h2 f3
        refine ⟨(by show 2 ≤ sizeLine; decide), fun t ht => ?_⟩
        have s4 := Same.new (o := .tup [V.ref l2, V.ref l3]) (Same.refl G3) ht
        have kA : KT K G G2 := KT.kept k2 d1.pt
        have kB : KT K G2 G3 := KT.kept k3 d2.pt
        obtain ⟨ks', pk, dks⟩ := dp_perm pm2 ks (DpAll.kt kA (noLists_map knot_noList _) dk1)
        obtain ⟨cs', pc, dcs⟩ := dp_perm pm3 cs1 (DpAll.kt kB (noLists_map cord_noList _) dc2)
        refine kk t l2 l3 ks' cs' _ ((d2.kp.trans k3).trans (Kept.same s4)) (hp3.keep s4) (.inl (.inl upd_same)) ⟨ys, s4 _ _ (k3 _ _ n2p h2), DpAll.kt (kB.trans (KT.same s4)) (noLists_map knot_noList _) dks⟩ ⟨zs, s4 _ _ h3, DpAll.kt (KT.same s4) (noLists_map cord_noList _) dcs⟩ f20 f30 n23 (web1.perm pk pc) (by rw [pk.length_eq]; omega) (by rw [pc.length_eq]; omega) (fun z => by
          have := pk.length_eq
          rw [z, ek] at this
          exact absurd this (by show 0 ≠ n; omega)) (fun k hk => d1.lo k (pk.subset hk))
end
end Sw
namespace Sw
open PySem PySem.Spec PyProof.Rows L2
/-! ### nodes by their specs -/
inductive Srt
  | gain | mix | times | choose | up | down | resample | own | outlet | inlet
  deriving DecidableEq
def srt : Spec → Srt
  | .gain _ _ _ => .gain
  | .mix _ => .mix
  | .times => .times
  | .choose => .choose
  | .up _ => .up
  | .down _ => .down
  | .resample _ _ => .resample
  | .own _ _ => .own
  | .outlet => .outlet
  | .inlet => .inlet
/-- the fields of a node -/
structure NdF (fs own : List (Str × V)) (tm : Addr) (l b : Int) : Prop where
  made : fs.lookup ("made" : Str) = some (.ref tm)
  late : fs.lookup ("late_by" : Str) = some (.int l)
  be : fs.lookup ("begin_at" : Str) = some (.int b)
  fld : ∀ (m : Str) (x : V), own.lookup m = some x → fs.lookup m = some x
  no : ∀ m : Str, own.lookup m = none → m ≠ "begin_at" → m ≠ "late_by" → m ≠ "made" → fs.lookup m = none
theorem ndF_mk {tm : Addr} {l b : Int} {fs own : List (Str × V)} (h : ∀ m : Str, fs.lookup m = own.lookup m) (n1 : own.lookup ("begin_at" : Str) = none) (n2 : own.lookup ("late_by" : Str) = none) (n3 : own.lookup ("made" : Str) = none) : NdF (nodeF tm l b fs) own tm l b := by
  refine ⟨?_, ?_, nodeF_be _ _ _ _, fun m x e => ?_, fun m e h3 h4 h5 => ?_⟩
  · unfold nodeF
    rw [lookup_putF, if_neg (by decide +kernel), lookup_putF, if_neg (by decide +kernel), lookup_putF, if_pos rfl]
  · unfold nodeF
    rw [lookup_putF, if_neg (by decide +kernel), lookup_putF, if_pos rfl]
  · rw [nodeF_no (fun z => by rw [z, n1] at e; cases e) (fun z => by rw [z, n2] at e; cases e) (fun z => by rw [z, n3] at e; cases e), h]
    exact e
  · rw [nodeF_no h3 h4 h5, h]
    exact e
theorem NdF.put {fs own : List (Str × V)} {tm : Addr} {l b : Int} (h : NdF fs own tm l b) (m : Str) (x : V) (n : m ≠ "begin_at") (n2 : m ≠ "late_by") (n3 : m ≠ "made") : NdF (putF m x fs) ((m, x) :: own) tm l b := by
  refine ⟨?_, ?_, ?_, fun m' x' e => ?_, fun m' e h3 h4 h5 => ?_⟩
  · rw [lookup_putF, if_neg (Ne.symm n3)]
    exact h.made
  · rw [lookup_putF, if_neg (Ne.symm n2)]
    exact h.late
  · rw [lookup_putF, if_neg (Ne.symm n)]
    exact h.be
  · rw [lookup_putF]
    rw [List.lookup_cons] at e
    by_cases z : m' = m
    · rw [if_pos z]
      rw [z, beq_self_eq_true] at e
      exact e
    · rw [if_neg z]
      rw [beq_false_of_ne z] at e
      exact h.fld m' x' e
  · rw [lookup_putF]
    rw [List.lookup_cons] at e
    by_cases z : m' = m
    · rw [z, beq_self_eq_true] at e
      cases e
    · rw [if_neg z]
      rw [beq_false_of_ne z] at e
      exact h.no m' e h3 h4 h5
def ownS (dd x : Addr) : Spec → List (Str × V)
  | .gain b _ _ => [("by", .int b)]
  | .mix n => [("many", natV n)]
  | .up n => [("hold", .bl false), ("many", natV n)]
  | .down n => [("many", natV n)]
  | .resample u d => [("down", natV d), ("up", natV u), ("numbers", .ref x)]
  | .own _ g => [("first", .int 0), ("given", natV g), ("taken", .ref x), ("deed", .ref dd)]
  | _ => []
def madeS (dd x : Addr) : Spec → List V
  | .gain b l g => [.int b, natV l, natV g]
  | .mix n => [natV n, .int 0, .int 0]
  | .up n => [natV n, .bl false, .int 0, .int 0]
  | .down n => [natV n, .int 0, .int 0]
  | .resample u d => [natV u, natV d, .ref x, .int 0, .int 0]
  | .own _ g => [.ref dd, .ref x, natV g, .int 0, .int 0, .int 0]
  | _ => [.int 0, .int 0]
def argS (dd x : Addr) : Spec → List V
  | .gain b l g => [.int b, natV l, natV g]
  | .mix n => [natV n, .int 0, .int 0]
  | .times => [.int 0, .int 0]
  | .choose => [.int 0, .int 0]
  | .up n => [natV n, .bl false, .int 0, .int 0]
  | .down n => [natV n, .int 0, .int 0]
  | .resample u d => [natV u, natV d, .ref x, .int 0, .int 0]
  | .own _ g => [.ref dd, .ref x, natV g, .int 0, .int 0, .int 0]
  | _ => []
def lateS : Spec → Int
  | .gain _ l _ => (l : Int)
  | _ => 0
def begS : Spec → Int
  | .gain _ _ g => (g : Int)
  | _ => 0
def auxS (K : PySem.W.Frag) (H : Hp) (x : Addr) : Spec → Prop
  | .own ts _ => SqT K H x (ts.map natV)
  | .resample _ _ => H x = some (.lst [.int 1, .int 2])
  | _ => True
theorem auxS.keep {K : PySem.W.Frag} {H H1 : Hp} {x : Addr} {s : Spec} (h : auxS K H x s) (k : Same H H1) : auxS K H1 x s := by
  cases s with
  | own ts g => exact Same.tup k h
  | resample u d => exact k _ _ h
  | _ => trivial
def NodeS (K : PySem.W.Frag) (cl : Srt → Addr) (dd : Addr) (s : Spec) (a : Addr) (H : Hp) : Prop := ∃ (dx : Addr) (fs : List (Str × V)) (tm x : Addr), H a = some (.ins (cl (srt s)) dx fs) ∧ NdF fs (ownS dd x s) tm (lateS s) (begS s) ∧ SqT K H tm (madeS dd x s) ∧ auxS K H x s
theorem NodeS.keep {K : PySem.W.Frag} {cl : Srt → Addr} {dd a : Addr} {s : Spec} {H H1 : Hp} (h : NodeS K cl dd s a H) (k : Same H H1) : NodeS K cl dd s a H1 := by
  obtain ⟨dx, fs, tm, x, h1, h2, h3, h4⟩ := h
  exact ⟨dx, fs, tm, x, k _ _ h1, h2, Same.tup k h3, h4.keep k⟩
/-- what an __init__ of such a sort does -/
def spMk (K : PySem.W.Frag) (A : Srt) (C dd : Addr) : Sp := fun vs H Q _ => ∃ (p dx x : Addr) (s : Spec), vs = .ref p :: argS dd x s ∧ srt s = A ∧ SpecOk s ∧ auxS K H x s ∧ H p = some (.ins C dx []) ∧
  ∀ (fs : List (Str × V)) (tm x' : Addr) (H' : Hp), Kept p H H' → H' p = some (.ins C dx fs) → NdF fs (ownS dd x' s) tm (lateS s) (begS s) → SqT K H' tm (madeS dd x' s) → auxS K H' x' s → Q .non H'
theorem KT.ins {K : PySem.W.Frag} {H : Hp} {p C dx : Addr} {fs : List (Str × V)} {o : HO} (hp : H p = some (.ins C dx fs)) : KT K H (L2.upd H p o) := fun q xs h => by
  rcases h with (h | ⟨u, h⟩) | h
  · exact .inl (.inl (by rw [upd_ne (fun z => by rw [z, hp] at h; cases h)]; exact h))
  · exact .inl (.inr ⟨u, by rw [upd_ne (fun z => by rw [z, hp] at h; cases h)]; exact h⟩)
  · exact .inr h
/-- behind Node.__init__ -/
theorem node_step {K : PySem.W.Frag} {H : Hp} {p C dx tm : Addr} {fs fs' : List (Str × V)} {xs : List V} (hp : H p = some (.ins C dx fs)) (htm : H tm = none) :
    Kept p H (L2.upd (L2.upd H tm (.tup xs)) p (.ins C dx fs')) ∧ SqT K (L2.upd (L2.upd H tm (.tup xs)) p (.ins C dx fs')) tm xs ∧ KT K H (L2.upd (L2.upd H tm (.tup xs)) p (.ins C dx fs')) := by
  have n : tm ≠ p := (ne_of_none hp htm).symm
  have s := Same.new (o := .tup xs) (Same.refl H) htm
  refine ⟨Kept.upd (Kept.same s), .inl (.inl ?_), (KT.same s).trans (KT.ins (s _ _ hp))⟩
  rw [upd_ne n]
  exact upd_same
theorem ty_tup {K : PySem.W.Frag} {H : Hp} {a : Addr} {xs : List V} (h : SqT K H a xs) : TyX K H (.ref a) (.type "tuple") := by
  rcases h with (h | ⟨o, h⟩) | h
  · exact .base (.tup h)
  · exact .fTuple h
  · obtain ⟨o, _, _, e, c, _⟩ := h
    exact .kTuple e c
def spWholesIn (K : PySem.W.Frag) : Sp := fun vs H Q _ => ∃ (t : Addr) (ts : List Nat), vs = [.ref t, .int 1, .int 8] ∧ SqT K H t (ts.map natV) ∧ ts.length ≤ 4 ∧ (∀ n ∈ ts, Dig n) ∧ ∀ H', Same H H' → Q (.bl true) H'
section
variable {P : Program} {w : World} {K : PySem.W.Frag} {mg : Str → Option Value} {base : Heap} {f f1 f2 f3 f4 f5 f6 f7 f8 f9 C CN CO CI CW dd : Addr} {fd fd1 fd2 fd3 fd4 fd5 fd6 fd7 fd8 fd9 : FuncData}
abbrev nAreWholesWithin : List Str := ["things", "least", "most", "thing"]
theorem scAreWholesWithin : FnScope nAreWholesWithin ["things", "least", "most"] (defScope sAreWholesWithin) := ⟨rfl, rfl, rfl, by decide +kernel, rfl, by decide +kernel, by decide +kernel⟩
theorem ok_wholesIn (F : FnP K "are_wholes_within" sAreWholesWithin f fd) (GW : FnOk P w K mg base CX0 2 f2 fd2 ["thing", "least", "most"] (spWithin K)) (gW : mg "is_whole_within" = some (.ref f2)) (kW : PySem.W.keepIn K (.ref f2) = true) (bW : Binds K fd2 ["thing", "least", "most"] []) (gAll : mg "all" = none) : FnOk P w K mg base CX0 3 f fd ["things", "least", "most"] (spWholesIn K) := by
  refine F.ok scAreWholesWithin (fun vs H Q E h => ?_) (fun cdv A ou s H vs Q E hr h => ?_)
  · obtain ⟨t, ts, rfl, _⟩ := h
    rfl
  · obtain ⟨t, ts, rfl, ht, few, dig, kk⟩ := h
    have nd := scAreWholesWithin.nd
    have hr2 : Room 2 _ := hr
    refine ⟨_, PSs.nox (pss_one (ps_ret (pe_callB (cr_all rfl) (by rfl) gAll (by decide +kernel) (pa_cons (pe_lc (own := [("thing", 3)]) (g := (gName 3)) (tt := tYes) rfl nd (pi_tup (pv 0)) (blkOk_by (N := nAreWholesWithin) (sc := defScope sAreWholesWithin) (by decide +kernel))
        (fun _ _ _ _ _ => (pg_name (i := 3) nd rfl (Or.inl rfl))) (fun _ _ _ _ _ => pts_nil) (fun _ _ _ _ _ => (pe_call GW hr2 rfl gW kW bW .nil pass0 (pa_cons (pv 3) (pa_cons (pv 1) (pa_cons (pv 2) pa_nil)))))) pa_nil)))), ?_⟩
    refine ⟨_, rfl, t, rfl, ⟨_, ht⟩, fun D hD => ?_⟩
    refine lc_it (walk_tup (xs := ts.map natV)) (fun j H' => H' D = some (.lst ((List.replicate j true).map V.bl)) ∧ Same H H') ⟨upd_same, Same.past (Same.refl _) hD⟩ (fun j H' _ e => Same.tup e.2 ht) (fun j v H' H'' hj e y => ?_) (fun H' e => ?_)
    · obtain ⟨hd, sm⟩ := e
      obtain ⟨rfl, ev⟩ := y
      rw [List.getElem?_map] at ev
      obtain ⟨n, en, rfl⟩ := Option.map_eq_some_iff.mp ev
      have dn := dig n (List.mem_of_getElem? en)
      have jl := (List.getElem?_eq_some_iff.mp en).1
      refine ⟨rfl, ?_⟩
      refine yes_ite ?_
      refine ⟨_, rfl, _, rfl, _, rfl, _, 1, 8, rfl, .inl ⟨_, rfl, ?_⟩⟩
      have d1 := dn.1
      have d2 := dn.2
      rw [show decide ((1 : Int) ≤ (n : Int) ∧ (n : Int) ≤ 8) = true from decide_eq_true (by omega)]
      refine ⟨_, hd, ?_, ?_, Same.past sm hD⟩
      · rw [List.length_map, List.length_replicate]
        exact Nat.lt_of_lt_of_le (show j < 100 by omega) (by decide)
      · rw [List.replicate_succ', List.map_append]
        exact upd_same
    · obtain ⟨hd, sm⟩ := e
      refine ⟨D, _, rfl, SqL.of hd, ?_⟩
      rw [all_true]
      exact kk _ sm
abbrev nInletInit : List Str := ["self"]
theorem scInletInit : FnScope nInletInit ["self"] (defScope sInletInit) := ⟨rfl, rfl, rfl, by decide +kernel, rfl, by decide +kernel, by decide +kernel⟩
theorem ok_inletInit {dvs : List V} {kws : List (Str × V)} (F : FunD K "__init__" "Inlet.__init__" (defArgs sInletInit) (defBody sInletInit) (defScope sInletInit) dvs kws f fd)
    (GB : FnOk P w K mg base CX0 3 f3 fd3 ["self", "arguments", "late", "begin"] (spNodeInit K C)) (gB : mg "Node" = some (.ref CN)) (mB : BaseM K CN "__init__" f3) (bB : Binds K fd3 ["self", "arguments", "late", "begin"] []) (T : NodeC K C) : FnOk P w K mg base CX0 4 f fd ["self"] (spMk K .inlet C dd) := by
  refine F.ok scInletInit (fun vs H Q E h => ?_) (fun cdv A ou s H vs Q E hr h => ?_)
  · obtain ⟨p, dx, x, s, rfl, e, _⟩ := h
    cases s with
    | inlet => rfl
    | _ => cases e
  · obtain ⟨p, dx, x, s, rfl, e, ok, au, hp, kk⟩ := h
    have hr2 : Room 2 _ := hr.mono (by decide)
    have hr1 : Room 1 _ := hr.mono (by decide)
    have nd := scInletInit.nd
    cases s with
    | inlet =>
      refine ⟨_, PSs.nox (pss_one (ps_expr (pe_base (pe_glob (v := .ref CN) rfl gB rfl) mB GB hr bB .nil pass0 (pa_cons (pv 0) (pa_cons (pe_tup pa_nil) (pa_cons pe_int (pa_cons pe_int pa_nil))))))), ?_⟩
      refine ⟨rfl, _, rfl, (by show 0 ≤ sizeLine; decide), fun t ht => ?_⟩
      have hp4 := Same.new (o := .tup []) (Same.refl H) ht _ _ hp
      have kt4 : KT K H (upd H t (.tup [])) := KT.same (Same.new (Same.refl H) ht)
      have kp4 : Kept p H (upd H t (.tup [])) := Kept.same (Same.new (Same.refl H) ht)
      refine ⟨p, t, dx, [], _, 0, 0, rfl, hp4, .inl (.inl upd_same), by decide, by decide, (by show 0 < 900; decide), (by show 0 ≤ 1000; decide), fun tm htm => ?_⟩
      obtain ⟨kp5, tm5, kt5⟩ := node_step (K := K) (fs' := nodeF tm 0 0 []) (xs := [] ++ [.int 0, .int 0]) hp4 htm
      have hp5 : upd (upd (upd H t (.tup [])) tm (.tup ([] ++ [.int 0, .int 0]))) p (.ins C dx (nodeF tm 0 0 [])) p = some (.ins C dx (nodeF tm 0 0 [])) := upd_same
      generalize upd (upd (upd H t (.tup [])) tm (.tup ([] ++ [.int 0, .int 0]))) p (.ins C dx (nodeF tm 0 0 [])) = G5 at kp5 tm5 kt5 hp5
      exact kk _ tm x _ (kp4.trans kp5) hp5 (ndF_mk (own := []) (fun m => rfl) rfl rfl rfl) tm5 trivial
    | _ => cases e
abbrev nOutletInit : List Str := ["self"]
theorem scOutletInit : FnScope nOutletInit ["self"] (defScope sOutletInit) := ⟨rfl, rfl, rfl, by decide +kernel, rfl, by decide +kernel, by decide +kernel⟩
theorem ok_outletInit {dvs : List V} {kws : List (Str × V)} (F : FunD K "__init__" "Outlet.__init__" (defArgs sOutletInit) (defBody sOutletInit) (defScope sOutletInit) dvs kws f fd)
    (GB : FnOk P w K mg base CX0 3 f3 fd3 ["self", "arguments", "late", "begin"] (spNodeInit K C)) (gB : mg "Node" = some (.ref CN)) (mB : BaseM K CN "__init__" f3) (bB : Binds K fd3 ["self", "arguments", "late", "begin"] []) (T : NodeC K C) : FnOk P w K mg base CX0 4 f fd ["self"] (spMk K .outlet C dd) := by
  refine F.ok scOutletInit (fun vs H Q E h => ?_) (fun cdv A ou s H vs Q E hr h => ?_)
  · obtain ⟨p, dx, x, s, rfl, e, _⟩ := h
    cases s with
    | outlet => rfl
    | _ => cases e
  · obtain ⟨p, dx, x, s, rfl, e, ok, au, hp, kk⟩ := h
    have hr2 : Room 2 _ := hr.mono (by decide)
    have hr1 : Room 1 _ := hr.mono (by decide)
    have nd := scOutletInit.nd
    cases s with
    | outlet =>
      refine ⟨_, PSs.nox (pss_one (ps_expr (pe_base (pe_glob (v := .ref CN) rfl gB rfl) mB GB hr bB .nil pass0 (pa_cons (pv 0) (pa_cons (pe_tup pa_nil) (pa_cons pe_int (pa_cons pe_int pa_nil))))))), ?_⟩
      refine ⟨rfl, _, rfl, (by show 0 ≤ sizeLine; decide), fun t ht => ?_⟩
      have hp4 := Same.new (o := .tup []) (Same.refl H) ht _ _ hp
      have kt4 : KT K H (upd H t (.tup [])) := KT.same (Same.new (Same.refl H) ht)
      have kp4 : Kept p H (upd H t (.tup [])) := Kept.same (Same.new (Same.refl H) ht)
      refine ⟨p, t, dx, [], _, 0, 0, rfl, hp4, .inl (.inl upd_same), by decide, by decide, (by show 0 < 900; decide), (by show 0 ≤ 1000; decide), fun tm htm => ?_⟩
      obtain ⟨kp5, tm5, kt5⟩ := node_step (K := K) (fs' := nodeF tm 0 0 []) (xs := [] ++ [.int 0, .int 0]) hp4 htm
      have hp5 : upd (upd (upd H t (.tup [])) tm (.tup ([] ++ [.int 0, .int 0]))) p (.ins C dx (nodeF tm 0 0 [])) p = some (.ins C dx (nodeF tm 0 0 [])) := upd_same
      generalize upd (upd (upd H t (.tup [])) tm (.tup ([] ++ [.int 0, .int 0]))) p (.ins C dx (nodeF tm 0 0 [])) = G5 at kp5 tm5 kt5 hp5
      exact kk _ tm x _ (kp4.trans kp5) hp5 (ndF_mk (own := []) (fun m => rfl) rfl rfl rfl) tm5 trivial
    | _ => cases e
abbrev nTimesInit : List Str := ["self", "late", "begin"]
theorem scTimesInit : FnScope nTimesInit ["self", "late", "begin"] (defScope sTimesInit) := ⟨rfl, rfl, rfl, by decide +kernel, rfl, by decide +kernel, by decide +kernel⟩
theorem ok_timesInit {dvs : List V} {kws : List (Str × V)} (F : FunD K "__init__" "Times.__init__" (defArgs sTimesInit) (defBody sTimesInit) (defScope sTimesInit) dvs kws f fd)
    (GB : FnOk P w K mg base CX0 3 f3 fd3 ["self", "arguments", "late", "begin"] (spNodeInit K C)) (gB : mg "Node" = some (.ref CN)) (mB : BaseM K CN "__init__" f3) (bB : Binds K fd3 ["self", "arguments", "late", "begin"] []) (T : NodeC K C) : FnOk P w K mg base CX0 4 f fd ["self", "late", "begin"] (spMk K .times C dd) := by
  refine F.ok scTimesInit (fun vs H Q E h => ?_) (fun cdv A ou s H vs Q E hr h => ?_)
  · obtain ⟨p, dx, x, s, rfl, e, _⟩ := h
    cases s with
    | times => rfl
    | _ => cases e
  · obtain ⟨p, dx, x, s, rfl, e, ok, au, hp, kk⟩ := h
    have hr2 : Room 2 _ := hr.mono (by decide)
    have hr1 : Room 1 _ := hr.mono (by decide)
    have nd := scTimesInit.nd
    cases s with
    | times =>
      refine ⟨_, PSs.nox (pss_one (ps_expr (pe_base (pe_glob (v := .ref CN) rfl gB rfl) mB GB hr bB .nil pass0 (pa_cons (pv 0) (pa_cons (pe_tup pa_nil) (pa_cons (pv 1) (pa_cons (pv 2) pa_nil))))))), ?_⟩
      refine ⟨rfl, _, rfl, (by show 0 ≤ sizeLine; decide), fun t ht => ?_⟩
      have hp4 := Same.new (o := .tup []) (Same.refl H) ht _ _ hp
      have kt4 : KT K H (upd H t (.tup [])) := KT.same (Same.new (Same.refl H) ht)
      have kp4 : Kept p H (upd H t (.tup [])) := Kept.same (Same.new (Same.refl H) ht)
      refine ⟨_, rfl, _, rfl, p, t, dx, [], _, 0, 0, rfl, hp4, .inl (.inl upd_same), by decide, by decide, (by show 0 < 900; decide), (by show 0 ≤ 1000; decide), fun tm htm => ?_⟩
      obtain ⟨kp5, tm5, kt5⟩ := node_step (K := K) (fs' := nodeF tm 0 0 []) (xs := [] ++ [.int 0, .int 0]) hp4 htm
      have hp5 : upd (upd (upd H t (.tup [])) tm (.tup ([] ++ [.int 0, .int 0]))) p (.ins C dx (nodeF tm 0 0 [])) p = some (.ins C dx (nodeF tm 0 0 [])) := upd_same
      generalize upd (upd (upd H t (.tup [])) tm (.tup ([] ++ [.int 0, .int 0]))) p (.ins C dx (nodeF tm 0 0 [])) = G5 at kp5 tm5 kt5 hp5
      exact kk _ tm x _ (kp4.trans kp5) hp5 (ndF_mk (own := []) (fun m => rfl) rfl rfl rfl) tm5 trivial
    | _ => cases e
abbrev nChooseInit : List Str := ["self", "late", "begin"]
theorem scChooseInit : FnScope nChooseInit ["self", "late", "begin"] (defScope sChooseInit) := ⟨rfl, rfl, rfl, by decide +kernel, rfl, by decide +kernel, by decide +kernel⟩
theorem ok_chooseInit {dvs : List V} {kws : List (Str × V)} (F : FunD K "__init__" "Choose.__init__" (defArgs sChooseInit) (defBody sChooseInit) (defScope sChooseInit) dvs kws f fd)
    (GB : FnOk P w K mg base CX0 3 f3 fd3 ["self", "arguments", "late", "begin"] (spNodeInit K C)) (gB : mg "Node" = some (.ref CN)) (mB : BaseM K CN "__init__" f3) (bB : Binds K fd3 ["self", "arguments", "late", "begin"] []) (T : NodeC K C) : FnOk P w K mg base CX0 4 f fd ["self", "late", "begin"] (spMk K .choose C dd) := by
  refine F.ok scChooseInit (fun vs H Q E h => ?_) (fun cdv A ou s H vs Q E hr h => ?_)
  · obtain ⟨p, dx, x, s, rfl, e, _⟩ := h
    cases s with
    | choose => rfl
    | _ => cases e
  · obtain ⟨p, dx, x, s, rfl, e, ok, au, hp, kk⟩ := h
    have hr2 : Room 2 _ := hr.mono (by decide)
    have hr1 : Room 1 _ := hr.mono (by decide)
    have nd := scChooseInit.nd
    cases s with
    | choose =>
      refine ⟨_, PSs.nox (pss_one (ps_expr (pe_base (pe_glob (v := .ref CN) rfl gB rfl) mB GB hr bB .nil pass0 (pa_cons (pv 0) (pa_cons (pe_tup pa_nil) (pa_cons (pv 1) (pa_cons (pv 2) pa_nil))))))), ?_⟩
      refine ⟨rfl, _, rfl, (by show 0 ≤ sizeLine; decide), fun t ht => ?_⟩
      have hp4 := Same.new (o := .tup []) (Same.refl H) ht _ _ hp
      have kt4 : KT K H (upd H t (.tup [])) := KT.same (Same.new (Same.refl H) ht)
      have kp4 : Kept p H (upd H t (.tup [])) := Kept.same (Same.new (Same.refl H) ht)
      refine ⟨_, rfl, _, rfl, p, t, dx, [], _, 0, 0, rfl, hp4, .inl (.inl upd_same), by decide, by decide, (by show 0 < 900; decide), (by show 0 ≤ 1000; decide), fun tm htm => ?_⟩
      obtain ⟨kp5, tm5, kt5⟩ := node_step (K := K) (fs' := nodeF tm 0 0 []) (xs := [] ++ [.int 0, .int 0]) hp4 htm
      have hp5 : upd (upd (upd H t (.tup [])) tm (.tup ([] ++ [.int 0, .int 0]))) p (.ins C dx (nodeF tm 0 0 [])) p = some (.ins C dx (nodeF tm 0 0 [])) := upd_same
      generalize upd (upd (upd H t (.tup [])) tm (.tup ([] ++ [.int 0, .int 0]))) p (.ins C dx (nodeF tm 0 0 [])) = G5 at kp5 tm5 kt5 hp5
      exact kk _ tm x _ (kp4.trans kp5) hp5 (ndF_mk (own := []) (fun m => rfl) rfl rfl rfl) tm5 trivial
    | _ => cases e
abbrev nGainInit : List Str := ["self", "by", "late", "begin"]
theorem scGainInit : FnScope nGainInit ["self", "by", "late", "begin"] (defScope sGainInit) := ⟨rfl, rfl, rfl, by decide +kernel, rfl, by decide +kernel, by decide +kernel⟩
theorem ok_gainInit {dvs : List V} {kws : List (Str × V)} (F : FunD K "__init__" "Gain.__init__" (defArgs sGainInit) (defBody sGainInit) (defScope sGainInit) dvs kws f fd)
    (GB : FnOk P w K mg base CX0 3 f3 fd3 ["self", "arguments", "late", "begin"] (spNodeInit K C)) (gB : mg "Node" = some (.ref CN)) (mB : BaseM K CN "__init__" f3) (bB : Binds K fd3 ["self", "arguments", "late", "begin"] []) (T : NodeC K C)
    (GN : FnOk P w K mg base CX0 1 f1 fd1 ["holds", "field"] spNeed) (gN : mg "need" = some (.ref f1)) (kN : PySem.W.keepIn K (.ref f1) = true) (bN : Binds K fd1 ["holds", "field"] [])
    (GI : FnOk P w K mg base CX0 1 f4 fd4 ["thing"] (spWhole K)) (gI : mg "is_whole" = some (.ref f4)) (kI : PySem.W.keepIn K (.ref f4) = true) (bI : Binds K fd4 ["thing"] [])
    (nB : NoAttr K C "by") : FnOk P w K mg base CX0 4 f fd ["self", "by", "late", "begin"] (spMk K .gain C dd) := by
  refine F.ok scGainInit (fun vs H Q E h => ?_) (fun cdv A ou s H vs Q E hr h => ?_)
  · obtain ⟨p, dx, x, s, rfl, e, _⟩ := h
    cases s with
    | gain b l g => rfl
    | _ => cases e
  · obtain ⟨p, dx, x, s, rfl, e, ok, au, hp, kk⟩ := h
    have hr2 : Room 2 _ := hr.mono (by decide)
    have hr1 : Room 1 _ := hr.mono (by decide)
    have nd := scGainInit.nd
    cases s with
    | gain b l g =>
      refine ⟨_, PSs.nox (pss_cons (ps_expr (pe_call GN hr1 rfl gN kN bN .nil pass0 (pa_cons (pe_call GI hr1 rfl gI kI bI .nil pass0 (pa_cons (pv 1) pa_nil)) (pa_cons pe_str pa_nil))))
      (pss_cons (ps_expr (pe_base (pe_glob (v := .ref CN) rfl gB rfl) mB GB hr bB .nil pass0 (pa_cons (pv 0) (pa_cons (pe_tup (pa_cons (pv 1) pa_nil)) (pa_cons (pv 2) (pa_cons (pv 3) pa_nil))))))
      (pss_one (ps_fld (pv 0) (pv 1) rfl)))), ?_⟩
      obtain ⟨_, _, l2, g2⟩ := ok
      refine ⟨_, rfl, _, rfl, .inl ⟨_, rfl, _, rfl, ?_⟩⟩
      refine ⟨rfl, _, rfl, _, rfl, (by show 1 ≤ sizeLine; decide), fun t ht => ?_⟩
      have hp4 := Same.new (o := .tup [V.int b]) (Same.refl H) ht _ _ hp
      have kt4 : KT K H (upd H t (.tup [V.int b])) := KT.same (Same.new (Same.refl H) ht)
      have kp4 : Kept p H (upd H t (.tup [V.int b])) := Kept.same (Same.new (Same.refl H) ht)
      refine ⟨_, rfl, _, rfl, p, t, dx, [], _, (l : Int), (g : Int), rfl, hp4, .inl (.inl upd_same), by omega, by omega, (by show 0 < 900; decide), (by show 1 ≤ 1000; decide), fun tm htm => ?_⟩
      obtain ⟨kp5, tm5, kt5⟩ := node_step (K := K) (fs' := nodeF tm (l : Int) (g : Int) []) (xs := [V.int b] ++ [.int (l : Int), .int (g : Int)]) hp4 htm
      have hp5 : upd (upd (upd H t (.tup [V.int b])) tm (.tup ([V.int b] ++ [.int (l : Int), .int (g : Int)]))) p (.ins C dx (nodeF tm (l : Int) (g : Int) [])) p = some (.ins C dx (nodeF tm (l : Int) (g : Int) [])) := upd_same
      generalize upd (upd (upd H t (.tup [V.int b])) tm (.tup ([V.int b] ++ [.int (l : Int), .int (g : Int)]))) p (.ins C dx (nodeF tm (l : Int) (g : Int) [])) = G5 at kp5 tm5 kt5 hp5
      refine ⟨_, rfl, _, rfl, p, C, dx, _, rfl, hp5, T.cl, nB, ?_, ?_⟩
      · exact Nat.lt_of_le_of_lt (nodeF_le _ _ _ _) (by show 0 + 3 < _; decide)
      exact kk _ tm x _ (Kept.upd (kp4.trans kp5)) upd_same (NdF.put (ndF_mk (own := []) (fun m => rfl) rfl rfl rfl) "by" _ (by decide +kernel) (by decide +kernel) (by decide +kernel)) (KT.ins hp5 _ _ (tm5)) trivial
    | _ => cases e
abbrev nMixInit : List Str := ["self", "many", "late", "begin"]
theorem scMixInit : FnScope nMixInit ["self", "many", "late", "begin"] (defScope sMixInit) := ⟨rfl, rfl, rfl, by decide +kernel, rfl, by decide +kernel, by decide +kernel⟩
theorem ok_mixInit {dvs : List V} {kws : List (Str × V)} (F : FunD K "__init__" "Mix.__init__" (defArgs sMixInit) (defBody sMixInit) (defScope sMixInit) dvs kws f fd)
    (GB : FnOk P w K mg base CX0 3 f3 fd3 ["self", "arguments", "late", "begin"] (spNodeInit K C)) (gB : mg "Node" = some (.ref CN)) (mB : BaseM K CN "__init__" f3) (bB : Binds K fd3 ["self", "arguments", "late", "begin"] []) (T : NodeC K C)
    (GN : FnOk P w K mg base CX0 1 f1 fd1 ["holds", "field"] spNeed) (gN : mg "need" = some (.ref f1)) (kN : PySem.W.keepIn K (.ref f1) = true) (bN : Binds K fd1 ["holds", "field"] [])
    (GW : FnOk P w K mg base CX0 2 f2 fd2 ["thing", "least", "most"] (spWithin K)) (gW : mg "is_whole_within" = some (.ref f2)) (kW : PySem.W.keepIn K (.ref f2) = true) (bW : Binds K fd2 ["thing", "least", "most"] [])
    (nM : NoAttr K C "many") (gM : ∃ t, mg "MOST_MIXED" = some (.int 8 t)) : FnOk P w K mg base CX0 4 f fd ["self", "many", "late", "begin"] (spMk K .mix C dd) := by
  obtain ⟨tM, gM⟩ := gM
  refine F.ok scMixInit (fun vs H Q E h => ?_) (fun cdv A ou s H vs Q E hr h => ?_)
  · obtain ⟨p, dx, x, s, rfl, e, _⟩ := h
    cases s with
    | mix n => rfl
    | _ => cases e
  · obtain ⟨p, dx, x, s, rfl, e, ok, au, hp, kk⟩ := h
    have hr2 : Room 2 _ := hr.mono (by decide)
    have hr1 : Room 1 _ := hr.mono (by decide)
    have nd := scMixInit.nd
    cases s with
    | mix n =>
      refine ⟨_, PSs.nox (pss_cons (ps_expr (pe_call GN hr1 rfl gN kN bN .nil pass0 (pa_cons (pe_call GW hr2 rfl gW kW bW .nil pass0 (pa_cons (pv 1) (pa_cons pe_int (pa_cons (pe_glob (v := .int 8) rfl gM ⟨_, rfl⟩) pa_nil)))) (pa_cons pe_str pa_nil))))
      (pss_cons (ps_expr (pe_base (pe_glob (v := .ref CN) rfl gB rfl) mB GB hr bB .nil pass0 (pa_cons (pv 0) (pa_cons (pe_tup (pa_cons (pv 1) pa_nil)) (pa_cons (pv 2) (pa_cons (pv 3) pa_nil))))))
      (pss_one (ps_fld (pv 0) (pv 1) rfl)))), ?_⟩
      obtain ⟨n1, n8⟩ := ok
      refine ⟨_, rfl, _, 1, 8, rfl, .inl ⟨_, rfl, ?_⟩⟩
      rw [show decide ((1 : Int) ≤ (n : Int) ∧ (n : Int) ≤ 8) = true from decide_eq_true (by omega)]
      refine ⟨_, rfl, ?_⟩
      refine ⟨rfl, _, rfl, _, rfl, (by show 1 ≤ sizeLine; decide), fun t ht => ?_⟩
      have hp4 := Same.new (o := .tup [natV n]) (Same.refl H) ht _ _ hp
      have kt4 : KT K H (upd H t (.tup [natV n])) := KT.same (Same.new (Same.refl H) ht)
      have kp4 : Kept p H (upd H t (.tup [natV n])) := Kept.same (Same.new (Same.refl H) ht)
      refine ⟨_, rfl, _, rfl, p, t, dx, [], _, 0, 0, rfl, hp4, .inl (.inl upd_same), by decide, by decide, (by show 0 < 900; decide), (by show 1 ≤ 1000; decide), fun tm htm => ?_⟩
      obtain ⟨kp5, tm5, kt5⟩ := node_step (K := K) (fs' := nodeF tm 0 0 []) (xs := [natV n] ++ [.int 0, .int 0]) hp4 htm
      have hp5 : upd (upd (upd H t (.tup [natV n])) tm (.tup ([natV n] ++ [.int 0, .int 0]))) p (.ins C dx (nodeF tm 0 0 [])) p = some (.ins C dx (nodeF tm 0 0 [])) := upd_same
      generalize upd (upd (upd H t (.tup [natV n])) tm (.tup ([natV n] ++ [.int 0, .int 0]))) p (.ins C dx (nodeF tm 0 0 [])) = G5 at kp5 tm5 kt5 hp5
      refine ⟨_, rfl, _, rfl, p, C, dx, _, rfl, hp5, T.cl, nM, ?_, ?_⟩
      · exact Nat.lt_of_le_of_lt (nodeF_le _ _ _ _) (by show 0 + 3 < _; decide)
      exact kk _ tm x _ (Kept.upd (kp4.trans kp5)) upd_same (NdF.put (ndF_mk (own := []) (fun m => rfl) rfl rfl rfl) "many" _ (by decide +kernel) (by decide +kernel) (by decide +kernel)) (KT.ins hp5 _ _ (tm5)) trivial
    | _ => cases e
abbrev nUpInit : List Str := ["self", "many", "hold", "late", "begin"]
theorem scUpInit : FnScope nUpInit ["self", "many", "hold", "late", "begin"] (defScope sUpInit) := ⟨rfl, rfl, rfl, by decide +kernel, rfl, by decide +kernel, by decide +kernel⟩
theorem ok_upInit {dvs : List V} {kws : List (Str × V)} (F : FunD K "__init__" "Up.__init__" (defArgs sUpInit) (defBody sUpInit) (defScope sUpInit) dvs kws f fd)
    (GB : FnOk P w K mg base CX0 3 f3 fd3 ["self", "arguments", "late", "begin"] (spNodeInit K C)) (gB : mg "Node" = some (.ref CN)) (mB : BaseM K CN "__init__" f3) (bB : Binds K fd3 ["self", "arguments", "late", "begin"] []) (T : NodeC K C)
    (GN : FnOk P w K mg base CX0 1 f1 fd1 ["holds", "field"] spNeed) (gN : mg "need" = some (.ref f1)) (kN : PySem.W.keepIn K (.ref f1) = true) (bN : Binds K fd1 ["holds", "field"] [])
    (GW : FnOk P w K mg base CX0 2 f2 fd2 ["thing", "least", "most"] (spWithin K)) (gW : mg "is_whole_within" = some (.ref f2)) (kW : PySem.W.keepIn K (.ref f2) = true) (bW : Binds K fd2 ["thing", "least", "most"] [])
    (GT : FnOk P w K mg base CX0 1 f5 fd5 ["thing"] spTruth) (gT : mg "is_truth" = some (.ref f5)) (kT : PySem.W.keepIn K (.ref f5) = true) (bT : Binds K fd5 ["thing"] [])
    (nM : NoAttr K C "many") (nH : NoAttr K C "hold") (gM : ∃ t, mg "MOST_RATE" = some (.int 8 t)) : FnOk P w K mg base CX0 4 f fd ["self", "many", "hold", "late", "begin"] (spMk K .up C dd) := by
  obtain ⟨tM, gM⟩ := gM
  refine F.ok scUpInit (fun vs H Q E h => ?_) (fun cdv A ou s H vs Q E hr h => ?_)
  · obtain ⟨p, dx, x, s, rfl, e, _⟩ := h
    cases s with
    | up n => rfl
    | _ => cases e
  · obtain ⟨p, dx, x, s, rfl, e, ok, au, hp, kk⟩ := h
    have hr2 : Room 2 _ := hr.mono (by decide)
    have hr1 : Room 1 _ := hr.mono (by decide)
    have nd := scUpInit.nd
    cases s with
    | up n =>
      refine ⟨_, PSs.nox (pss_cons (ps_expr (pe_call GN hr1 rfl gN kN bN .nil pass0 (pa_cons (pe_call GW hr2 rfl gW kW bW .nil pass0 (pa_cons (pv 1) (pa_cons pe_int (pa_cons (pe_glob (v := .int 8) rfl gM ⟨_, rfl⟩) pa_nil)))) (pa_cons pe_str pa_nil))))
      (pss_cons (ps_expr (pe_call GN hr1 rfl gN kN bN .nil pass0 (pa_cons (pe_call GT hr1 rfl gT kT bT .nil pass0 (pa_cons (pv 2) pa_nil)) (pa_cons pe_str pa_nil))))
      (pss_cons (ps_expr (pe_base (pe_glob (v := .ref CN) rfl gB rfl) mB GB hr bB .nil pass0 (pa_cons (pv 0) (pa_cons (pe_tup (pa_cons (pv 1) (pa_cons (pv 2) pa_nil))) (pa_cons (pv 3) (pa_cons (pv 4) pa_nil))))))
      (pss_cons (ps_fld (pv 0) (pv 1) rfl)
      (pss_one (ps_fld (pv 0) (pv 2) rfl)))))), ?_⟩
      obtain ⟨n1, n8⟩ := ok
      refine ⟨_, rfl, _, 1, 8, rfl, .inl ⟨_, rfl, ?_⟩⟩
      rw [show decide ((1 : Int) ≤ (n : Int) ∧ (n : Int) ≤ 8) = true from decide_eq_true (by omega)]
      refine ⟨_, rfl, ?_⟩
      refine ⟨_, rfl, false, rfl, _, rfl, ?_⟩
      refine ⟨rfl, _, rfl, _, rfl, _, rfl, (by show 2 ≤ sizeLine; decide), fun t ht => ?_⟩
      have hp4 := Same.new (o := .tup [natV n, V.bl false]) (Same.refl H) ht _ _ hp
      have kt4 : KT K H (upd H t (.tup [natV n, V.bl false])) := KT.same (Same.new (Same.refl H) ht)
      have kp4 : Kept p H (upd H t (.tup [natV n, V.bl false])) := Kept.same (Same.new (Same.refl H) ht)
      refine ⟨_, rfl, _, rfl, p, t, dx, [], _, 0, 0, rfl, hp4, .inl (.inl upd_same), by decide, by decide, (by show 0 < 900; decide), (by show 2 ≤ 1000; decide), fun tm htm => ?_⟩
      obtain ⟨kp5, tm5, kt5⟩ := node_step (K := K) (fs' := nodeF tm 0 0 []) (xs := [natV n, V.bl false] ++ [.int 0, .int 0]) hp4 htm
      have hp5 : upd (upd (upd H t (.tup [natV n, V.bl false])) tm (.tup ([natV n, V.bl false] ++ [.int 0, .int 0]))) p (.ins C dx (nodeF tm 0 0 [])) p = some (.ins C dx (nodeF tm 0 0 [])) := upd_same
      generalize upd (upd (upd H t (.tup [natV n, V.bl false])) tm (.tup ([natV n, V.bl false] ++ [.int 0, .int 0]))) p (.ins C dx (nodeF tm 0 0 [])) = G5 at kp5 tm5 kt5 hp5
      refine ⟨_, rfl, _, rfl, p, C, dx, _, rfl, hp5, T.cl, nM, ?_, ?_⟩
      · exact Nat.lt_of_le_of_lt (nodeF_le _ _ _ _) (by show 0 + 3 < _; decide)
      refine ⟨_, rfl, _, rfl, p, C, dx, _, rfl, upd_same, T.cl, nH, ?_, ?_⟩
      · exact Nat.lt_of_le_of_lt (Nat.le_trans (putF_le _ _ _) (Nat.succ_le_succ (nodeF_le _ _ _ _))) (by show 0 + 3 + 1 < _; decide)
      exact kk _ tm x _ (Kept.upd (Kept.upd (kp4.trans kp5))) upd_same (NdF.put (NdF.put (ndF_mk (own := []) (fun m => rfl) rfl rfl rfl) "many" _ (by decide +kernel) (by decide +kernel) (by decide +kernel)) "hold" _ (by decide +kernel) (by decide +kernel) (by decide +kernel)) (KT.ins upd_same _ _ (KT.ins hp5 _ _ (tm5))) trivial
    | _ => cases e
abbrev nDownInit : List Str := ["self", "many", "late", "begin"]
theorem scDownInit : FnScope nDownInit ["self", "many", "late", "begin"] (defScope sDownInit) := ⟨rfl, rfl, rfl, by decide +kernel, rfl, by decide +kernel, by decide +kernel⟩
theorem ok_downInit {dvs : List V} {kws : List (Str × V)} (F : FunD K "__init__" "Down.__init__" (defArgs sDownInit) (defBody sDownInit) (defScope sDownInit) dvs kws f fd)
    (GB : FnOk P w K mg base CX0 3 f3 fd3 ["self", "arguments", "late", "begin"] (spNodeInit K C)) (gB : mg "Node" = some (.ref CN)) (mB : BaseM K CN "__init__" f3) (bB : Binds K fd3 ["self", "arguments", "late", "begin"] []) (T : NodeC K C)
    (GN : FnOk P w K mg base CX0 1 f1 fd1 ["holds", "field"] spNeed) (gN : mg "need" = some (.ref f1)) (kN : PySem.W.keepIn K (.ref f1) = true) (bN : Binds K fd1 ["holds", "field"] [])
    (GW : FnOk P w K mg base CX0 2 f2 fd2 ["thing", "least", "most"] (spWithin K)) (gW : mg "is_whole_within" = some (.ref f2)) (kW : PySem.W.keepIn K (.ref f2) = true) (bW : Binds K fd2 ["thing", "least", "most"] [])
    (nM : NoAttr K C "many") (gM : ∃ t, mg "MOST_RATE" = some (.int 8 t)) : FnOk P w K mg base CX0 4 f fd ["self", "many", "late", "begin"] (spMk K .down C dd) := by
  obtain ⟨tM, gM⟩ := gM
  refine F.ok scDownInit (fun vs H Q E h => ?_) (fun cdv A ou s H vs Q E hr h => ?_)
  · obtain ⟨p, dx, x, s, rfl, e, _⟩ := h
    cases s with
    | down n => rfl
    | _ => cases e
  · obtain ⟨p, dx, x, s, rfl, e, ok, au, hp, kk⟩ := h
    have hr2 : Room 2 _ := hr.mono (by decide)
    have hr1 : Room 1 _ := hr.mono (by decide)
    have nd := scDownInit.nd
    cases s with
    | down n =>
      refine ⟨_, PSs.nox (pss_cons (ps_expr (pe_call GN hr1 rfl gN kN bN .nil pass0 (pa_cons (pe_call GW hr2 rfl gW kW bW .nil pass0 (pa_cons (pv 1) (pa_cons pe_int (pa_cons (pe_glob (v := .int 8) rfl gM ⟨_, rfl⟩) pa_nil)))) (pa_cons pe_str pa_nil))))
      (pss_cons (ps_expr (pe_base (pe_glob (v := .ref CN) rfl gB rfl) mB GB hr bB .nil pass0 (pa_cons (pv 0) (pa_cons (pe_tup (pa_cons (pv 1) pa_nil)) (pa_cons (pv 2) (pa_cons (pv 3) pa_nil))))))
      (pss_one (ps_fld (pv 0) (pv 1) rfl)))), ?_⟩
      obtain ⟨n1, n8⟩ := ok
      refine ⟨_, rfl, _, 1, 8, rfl, .inl ⟨_, rfl, ?_⟩⟩
      rw [show decide ((1 : Int) ≤ (n : Int) ∧ (n : Int) ≤ 8) = true from decide_eq_true (by omega)]
      refine ⟨_, rfl, ?_⟩
      refine ⟨rfl, _, rfl, _, rfl, (by show 1 ≤ sizeLine; decide), fun t ht => ?_⟩
      have hp4 := Same.new (o := .tup [natV n]) (Same.refl H) ht _ _ hp
      have kt4 : KT K H (upd H t (.tup [natV n])) := KT.same (Same.new (Same.refl H) ht)
      have kp4 : Kept p H (upd H t (.tup [natV n])) := Kept.same (Same.new (Same.refl H) ht)
      refine ⟨_, rfl, _, rfl, p, t, dx, [], _, 0, 0, rfl, hp4, .inl (.inl upd_same), by decide, by decide, (by show 0 < 900; decide), (by show 1 ≤ 1000; decide), fun tm htm => ?_⟩
      obtain ⟨kp5, tm5, kt5⟩ := node_step (K := K) (fs' := nodeF tm 0 0 []) (xs := [natV n] ++ [.int 0, .int 0]) hp4 htm
      have hp5 : upd (upd (upd H t (.tup [natV n])) tm (.tup ([natV n] ++ [.int 0, .int 0]))) p (.ins C dx (nodeF tm 0 0 [])) p = some (.ins C dx (nodeF tm 0 0 [])) := upd_same
      generalize upd (upd (upd H t (.tup [natV n])) tm (.tup ([natV n] ++ [.int 0, .int 0]))) p (.ins C dx (nodeF tm 0 0 [])) = G5 at kp5 tm5 kt5 hp5
      refine ⟨_, rfl, _, rfl, p, C, dx, _, rfl, hp5, T.cl, nM, ?_, ?_⟩
      · exact Nat.lt_of_le_of_lt (nodeF_le _ _ _ _) (by show 0 + 3 < _; decide)
      exact kk _ tm x _ (Kept.upd (kp4.trans kp5)) upd_same (NdF.put (ndF_mk (own := []) (fun m => rfl) rfl rfl rfl) "many" _ (by decide +kernel) (by decide +kernel) (by decide +kernel)) (KT.ins hp5 _ _ (tm5)) trivial
    | _ => cases e
abbrev nResampleInit : List Str := ["self", "up", "down", "numbers", "late", "begin"]
theorem scResampleInit : FnScope nResampleInit ["self", "up", "down", "numbers", "late", "begin"] (defScope sResampleInit) := ⟨rfl, rfl, rfl, by decide +kernel, rfl, by decide +kernel, by decide +kernel⟩
theorem ok_resampleInit {dvs : List V} {kws : List (Str × V)} (F : FunD K "__init__" "Resample.__init__" (defArgs sResampleInit) (defBody sResampleInit) (defScope sResampleInit) dvs kws f fd)
    (GB : FnOk P w K mg base CX0 3 f3 fd3 ["self", "arguments", "late", "begin"] (spNodeInit K C)) (gB : mg "Node" = some (.ref CN)) (mB : BaseM K CN "__init__" f3) (bB : Binds K fd3 ["self", "arguments", "late", "begin"] []) (T : NodeC K C)
    (GN : FnOk P w K mg base CX0 1 f1 fd1 ["holds", "field"] spNeed) (gN : mg "need" = some (.ref f1)) (kN : PySem.W.keepIn K (.ref f1) = true) (bN : Binds K fd1 ["holds", "field"] [])
    (GW : FnOk P w K mg base CX0 2 f2 fd2 ["thing", "least", "most"] (spWithin K)) (gW : mg "is_whole_within" = some (.ref f2)) (kW : PySem.W.keepIn K (.ref f2) = true) (bW : Binds K fd2 ["thing", "least", "most"] [])
    (GL : FnOk P w K mg base CX0 3 f6 fd6 ["thing", "least", "most"] (spListOf K)) (gL : mg "is_list_of_wholes" = some (.ref f6)) (kL : PySem.W.keepIn K (.ref f6) = true) (bL : Binds K fd6 ["thing", "least", "most"] [])
    (nN : NoAttr K C "numbers") (nU : NoAttr K C "up") (nD : NoAttr K C "down") (gM : ∃ t, mg "MOST_RATE" = some (.int 8 t)) (gP : ∃ t, mg "MOST_TAPS" = some (.int 12 t)) (gList : mg "list" = none) : FnOk P w K mg base CX0 4 f fd ["self", "up", "down", "numbers", "late", "begin"] (spMk K .resample C dd) := by
  obtain ⟨tM, gM⟩ := gM
  obtain ⟨tP, gP⟩ := gP
  refine F.ok scResampleInit (fun vs H Q E h => ?_) (fun cdv A ou s H vs Q E hr h => ?_)
  · obtain ⟨p, dx, x, s, rfl, e, _⟩ := h
    cases s with
    | resample u d => rfl
    | _ => cases e
  · obtain ⟨p, dx, x, s, rfl, e, ok, au, hp, kk⟩ := h
    have hr2 : Room 2 _ := hr.mono (by decide)
    have hr1 : Room 1 _ := hr.mono (by decide)
    have nd := scResampleInit.nd
    cases s with
    | resample u d =>
      refine ⟨_, PSs.nox (pss_cons (ps_expr (pe_call GN hr1 rfl gN kN bN .nil pass0 (pa_cons (pe_call GW hr2 rfl gW kW bW .nil pass0 (pa_cons (pv 1) (pa_cons pe_int (pa_cons (pe_glob (v := .int 8) rfl gM ⟨_, rfl⟩) pa_nil)))) (pa_cons pe_str pa_nil))))
      (pss_cons (ps_expr (pe_call GN hr1 rfl gN kN bN .nil pass0 (pa_cons (pe_call GW hr2 rfl gW kW bW .nil pass0 (pa_cons (pv 2) (pa_cons pe_int (pa_cons (pe_glob (v := .int 8) rfl gM ⟨_, rfl⟩) pa_nil)))) (pa_cons pe_str pa_nil))))
      (pss_cons (ps_expr (pe_call GN hr1 rfl gN kN bN .nil pass0 (pa_cons (pe_call GL hr rfl gL kL bL .nil pass0 (pa_cons (pv 3) (pa_cons pe_int (pa_cons (pe_glob (v := .int 12) rfl gP ⟨_, rfl⟩) pa_nil)))) (pa_cons pe_str pa_nil))))
      (pss_cons (ps_fld (pv 0) (pe_callTy call_list_of (by rfl) gList PyProof.Rows.boot_list (pa_cons (pv 3) pa_nil)) rfl)
      (pss_cons (ps_expr (pe_base (pe_glob (v := .ref CN) rfl gB rfl) mB GB hr bB .nil pass0 (pa_cons (pv 0) (pa_cons (pe_tup (pa_cons (pv 1) (pa_cons (pv 2) (pa_cons (pe_fld (pv 0) rfl) pa_nil)))) (pa_cons (pv 4) (pa_cons (pv 5) pa_nil))))))
      (pss_cons (ps_fld (pv 0) (pv 1) rfl)
      (pss_one (ps_fld (pv 0) (pv 2) rfl)))))))), ?_⟩
      obtain ⟨⟨u1, u8⟩, d1, d8⟩ := ok
      refine ⟨_, rfl, _, 1, 8, rfl, .inl ⟨_, rfl, ?_⟩⟩
      rw [show decide ((1 : Int) ≤ (u : Int) ∧ (u : Int) ≤ 8) = true from decide_eq_true (by omega)]
      refine ⟨_, rfl, ?_⟩
      refine ⟨_, rfl, _, 1, 8, rfl, .inl ⟨_, rfl, ?_⟩⟩
      rw [show decide ((1 : Int) ≤ (d : Int) ∧ (d : Int) ≤ 8) = true from decide_eq_true (by omega)]
      refine ⟨_, rfl, ?_⟩
      have au : H x = some (.lst ([1, 2].map V.int)) := au
      refine ⟨_, rfl, x, [1, 2], 1, 12, rfl, au, (by decide), (by decide), (by decide), fun H1 s1 => ⟨_, rfl, ?_⟩⟩
      refine ⟨_, rfl, x, _, rfl, .inl (SqL.of (s1 _ _ au)), fun ln hln => ?_⟩
      have s2 := Same.new (o := .lst ([1, 2].map V.int)) s1 hln
      have hp2 := s2 _ _ hp
      have nln : H ln = none := s1.free hln
      have npl : ln ≠ p := (ne_of_none hp nln).symm
      have hln2 : (upd H1 ln (.lst ([1, 2].map V.int))) ln = some (.lst ([1, 2].map V.int)) := upd_same
      generalize upd H1 ln (.lst ([1, 2].map V.int)) = H2 at s2 hp2 hln2
      refine ⟨_, rfl, p, C, dx, _, rfl, hp2, T.cl, nN, by decide, ?_⟩
      have hp3 : (upd H2 p (.ins C dx (putF "numbers" (.ref ln) []))) p = some (.ins C dx (putF "numbers" (.ref ln) [])) := upd_same
      have k3 : Kept p H (upd H2 p (.ins C dx (putF "numbers" (.ref ln) []))) := Kept.upd (Kept.same s2)
      have ln3 : (upd H2 p (.ins C dx (putF "numbers" (.ref ln) []))) ln = some (.lst ([1, 2].map V.int)) := by rw [upd_ne npl]; exact hln2
      generalize upd H2 p (.ins C dx (putF "numbers" (.ref ln) [])) = H3 at hp3 k3 ln3
      refine ⟨rfl, _, rfl, _, rfl, _, rfl, _, rfl, p, C, dx, _, _, rfl, hp3, T.cl, nN, rfl, (by show 3 ≤ sizeLine; decide), fun t ht => ?_⟩
      have hp4 := Same.new (o := .tup [natV u, natV d, V.ref ln]) (Same.refl H3) ht _ _ hp3
      have kt4 : KT K H3 (upd H3 t (.tup [natV u, natV d, V.ref ln])) := KT.same (Same.new (Same.refl H3) ht)
      have kp4 : Kept p H3 (upd H3 t (.tup [natV u, natV d, V.ref ln])) := Kept.same (Same.new (Same.refl H3) ht)
      refine ⟨_, rfl, _, rfl, p, t, dx, (putF "numbers" (.ref ln) []), _, 0, 0, rfl, hp4, .inl (.inl upd_same), by decide, by decide, (by show 1 < 900; decide), (by show 3 ≤ 1000; decide), fun tm htm => ?_⟩
      obtain ⟨kp5, tm5, kt5⟩ := node_step (K := K) (fs' := nodeF tm 0 0 (putF "numbers" (.ref ln) [])) (xs := [natV u, natV d, V.ref ln] ++ [.int 0, .int 0]) hp4 htm
      have hp5 : upd (upd (upd H3 t (.tup [natV u, natV d, V.ref ln])) tm (.tup ([natV u, natV d, V.ref ln] ++ [.int 0, .int 0]))) p (.ins C dx (nodeF tm 0 0 (putF "numbers" (.ref ln) []))) p = some (.ins C dx (nodeF tm 0 0 (putF "numbers" (.ref ln) []))) := upd_same
      generalize upd (upd (upd H3 t (.tup [natV u, natV d, V.ref ln])) tm (.tup ([natV u, natV d, V.ref ln] ++ [.int 0, .int 0]))) p (.ins C dx (nodeF tm 0 0 (putF "numbers" (.ref ln) []))) = G5 at kp5 tm5 kt5 hp5
      have ln5 := kp5 _ _ npl (kp4 _ _ npl ln3)
      refine ⟨_, rfl, _, rfl, p, C, dx, _, rfl, hp5, T.cl, nU, ?_, ?_⟩
      · exact Nat.lt_of_le_of_lt (nodeF_le _ _ _ _) (by show 1 + 3 < _; decide)
      refine ⟨_, rfl, _, rfl, p, C, dx, _, rfl, upd_same, T.cl, nD, ?_, ?_⟩
      · exact Nat.lt_of_le_of_lt (Nat.le_trans (putF_le _ _ _) (Nat.succ_le_succ (nodeF_le _ _ _ _))) (by show 1 + 3 + 1 < _; decide)
      refine kk _ tm ln _ (Kept.upd (Kept.upd (k3.trans (kp4.trans kp5)))) upd_same (NdF.put (NdF.put (ndF_mk (own := [("numbers", .ref ln)]) (fun m => rfl) rfl rfl rfl) "up" _ (by decide +kernel) (by decide +kernel) (by decide +kernel)) "down" _ (by decide +kernel) (by decide +kernel) (by decide +kernel)) (KT.ins upd_same _ _ (KT.ins hp5 _ _ (tm5))) ?_
      show upd (upd G5 p _) p _ ln = _
      rw [upd_ne npl, upd_ne npl]
      exact ln5
    | _ => cases e
abbrev nOwnInit : List Str := ["self", "deed", "takes", "gives", "first", "late", "begin"]
theorem scOwnInit : FnScope nOwnInit ["self", "deed", "takes", "gives", "first", "late", "begin"] (defScope sOwnInit) := ⟨rfl, rfl, rfl, by decide +kernel, rfl, by decide +kernel, by decide +kernel⟩
theorem ok_ownInit {dvs : List V} {kws : List (Str × V)} (F : FunD K "__init__" "Own.__init__" (defArgs sOwnInit) (defBody sOwnInit) (defScope sOwnInit) dvs kws f fd)
    (GB : FnOk P w K mg base CX0 3 f3 fd3 ["self", "arguments", "late", "begin"] (spNodeInit K C)) (gB : mg "Node" = some (.ref CN)) (mB : BaseM K CN "__init__" f3) (bB : Binds K fd3 ["self", "arguments", "late", "begin"] []) (T : NodeC K C)
    (GN : FnOk P w K mg base CX0 1 f1 fd1 ["holds", "field"] spNeed) (gN : mg "need" = some (.ref f1)) (kN : PySem.W.keepIn K (.ref f1) = true) (bN : Binds K fd1 ["holds", "field"] [])
    (GI : FnOk P w K mg base CX0 1 f4 fd4 ["thing"] (spWhole K)) (gI : mg "is_whole" = some (.ref f4)) (kI : PySem.W.keepIn K (.ref f4) = true) (bI : Binds K fd4 ["thing"] [])
    (GW : FnOk P w K mg base CX0 2 f2 fd2 ["thing", "least", "most"] (spWithin K)) (gW : mg "is_whole_within" = some (.ref f2)) (kW : PySem.W.keepIn K (.ref f2) = true) (bW : Binds K fd2 ["thing", "least", "most"] [])
    (GA : FnOk P w K mg base CX0 3 f7 fd7 ["things", "least", "most"] (spWholesIn K)) (gA : mg "are_wholes_within" = some (.ref f7)) (kA : PySem.W.keepIn K (.ref f7) = true) (bA : Binds K fd7 ["things", "least", "most"] [])
    (GZ : FnOk P w K mg base CX0 2 f8 fd8 ["things"] (spWholes K)) (gZ : mg "are_wholes" = some (.ref f8)) (kZ : PySem.W.keepIn K (.ref f8) = true) (bZ : Binds K fd8 ["things"] [])
    (nDe : NoAttr K C "deed") (nTa : NoAttr K C "taken") (nGi : NoAttr K C "given") (nFi : NoAttr K C "first") (gM : ∃ t, mg "MOST_OWN_SAMPLES" = some (.int 8 t)) (gP : ∃ t, mg "MOST_OWN_PLACES" = some (.int 4 t)) (gIs : mg "isinstance" = none) (gTuple : mg "tuple" = none) (gLen : mg "len" = none) : FnOk P w K mg base CX0 4 f fd ["self", "deed", "takes", "gives", "first", "late", "begin"] (spMk K .own C dd) := by
  obtain ⟨tM, gM⟩ := gM
  obtain ⟨tP, gP⟩ := gP
  refine F.ok scOwnInit (fun vs H Q E h => ?_) (fun cdv A ou s H vs Q E hr h => ?_)
  · obtain ⟨p, dx, x, s, rfl, e, _⟩ := h
    cases s with
    | own ts g => rfl
    | _ => cases e
  · obtain ⟨p, dx, x, s, rfl, e, ok, au, hp, kk⟩ := h
    have hr2 : Room 2 _ := hr.mono (by decide)
    have hr1 : Room 1 _ := hr.mono (by decide)
    have nd := scOwnInit.nd
    cases s with
    | own ts g =>
      refine ⟨_, PSs.nox (pss_cons (ps_expr (pe_call GN hr1 rfl gN kN bN .nil pass0 (pa_cons (pe_and (pe_callB call_isi (by rfl) gIs boot_isinstance (pa_cons (pv 2) (pa_cons (pe_bltn (v := .ty "tuple") rfl gTuple PyProof.Rows.boot_tuple rfl) pa_nil))) (pe_one (pe_chain op_le op_le pe_int (pe_callB call_len_seq (by rfl) gLen PySem.boot_len (pa_cons (pv 2) pa_nil)) (pe_glob (v := .int 4) rfl gP ⟨_, rfl⟩)))) (pa_cons pe_str pa_nil))))
      (pss_cons (ps_expr (pe_call GN hr1 rfl gN kN bN .nil pass0 (pa_cons (pe_call GA hr rfl gA kA bA .nil pass0 (pa_cons (pv 2) (pa_cons pe_int (pa_cons (pe_glob (v := .int 8) rfl gM ⟨_, rfl⟩) pa_nil)))) (pa_cons pe_str pa_nil))))
      (pss_cons (ps_expr (pe_call GN hr1 rfl gN kN bN .nil pass0 (pa_cons (pe_call GW hr2 rfl gW kW bW .nil pass0 (pa_cons (pv 3) (pa_cons pe_int (pa_cons (pe_glob (v := .int 8) rfl gM ⟨_, rfl⟩) pa_nil)))) (pa_cons pe_str pa_nil))))
      (pss_cons (ps_expr (pe_call GN hr1 rfl gN kN bN .nil pass0 (pa_cons (pe_or (pe_call GI hr1 rfl gI kI bI .nil pass0 (pa_cons (pv 4) pa_nil)) (pe_one (pe_and (pe_callB call_isi (by rfl) gIs boot_isinstance (pa_cons (pv 4) (pa_cons (pe_bltn (v := .ty "tuple") rfl gTuple PyProof.Rows.boot_tuple rfl) pa_nil))) (pe_one (pe_call GZ hr2 rfl gZ kZ bZ .nil pass0 (pa_cons (pv 4) pa_nil)))))) (pa_cons pe_str pa_nil))))
      (pss_cons (ps_expr (pe_base (pe_glob (v := .ref CN) rfl gB rfl) mB GB hr bB .nil pass0 (pa_cons (pv 0) (pa_cons (pe_tup (pa_cons (pv 1) (pa_cons (pv 2) (pa_cons (pv 3) (pa_cons (pv 4) pa_nil))))) (pa_cons (pv 5) (pa_cons (pv 6) pa_nil))))))
      (pss_cons (ps_fld (pv 0) (pv 1) rfl)
      (pss_cons (ps_fld (pv 0) (pv 2) rfl)
      (pss_cons (ps_fld (pv 0) (pv 3) rfl)
      (pss_one (ps_fld (pv 0) (pv 4) rfl)))))))))), ?_⟩
      obtain ⟨t1, t4, dig, g1, g8⟩ := ok
      have au : SqT K H x (ts.map natV) := au
      refine ⟨_, rfl, _, _, _, _, true, rfl, ClsV.ty _, ty_tup au, kit_ty (by decide +kernel), _, rfl, iteT ?_⟩
      refine ⟨_, rfl, x, _, rfl, .inr au, _, _, rfl, rfl, _, rfl, iteT_ ?_ ?_⟩
      · rw [List.length_map]
        exact decide_eq_true (by omega)
      refine ⟨_, _, rfl, rfl, ?_⟩
      refine ⟨_, congrArg (fun b => [V.bl b, V.str "takes"]) (decide_eq_true (by rw [List.length_map]; omega)), ?_⟩
      refine ⟨_, rfl, x, ts, rfl, au, t4, dig, fun H1 s1 => ⟨_, rfl, ?_⟩⟩
      refine ⟨_, rfl, _, 1, 8, rfl, .inl ⟨_, rfl, ?_⟩⟩
      rw [show decide ((1 : Int) ≤ (g : Int) ∧ (g : Int) ≤ 8) = true from decide_eq_true (by omega)]
      refine ⟨_, rfl, ?_⟩
      refine ⟨_, rfl, _, rfl, .inl ⟨_, rfl, _, rfl, iteT ?_⟩⟩
      refine ⟨_, rfl, ?_⟩
      have hp1 := s1 _ _ hp
      have au1 := Same.tup s1 au
      refine ⟨rfl, _, rfl, _, rfl, _, rfl, _, rfl, _, rfl, (by show 4 ≤ sizeLine; decide), fun t ht => ?_⟩
      have hp4 := Same.new (o := .tup [V.ref dd, V.ref x, natV g, V.int 0]) (Same.refl H1) ht _ _ hp1
      have kt4 : KT K H1 (upd H1 t (.tup [V.ref dd, V.ref x, natV g, V.int 0])) := KT.same (Same.new (Same.refl H1) ht)
      have kp4 : Kept p H1 (upd H1 t (.tup [V.ref dd, V.ref x, natV g, V.int 0])) := Kept.same (Same.new (Same.refl H1) ht)
      refine ⟨_, rfl, _, rfl, p, t, dx, [], _, 0, 0, rfl, hp4, .inl (.inl upd_same), by decide, by decide, (by show 0 < 900; decide), (by show 4 ≤ 1000; decide), fun tm htm => ?_⟩
      obtain ⟨kp5, tm5, kt5⟩ := node_step (K := K) (fs' := nodeF tm 0 0 []) (xs := [V.ref dd, V.ref x, natV g, V.int 0] ++ [.int 0, .int 0]) hp4 htm
      have hp5 : upd (upd (upd H1 t (.tup [V.ref dd, V.ref x, natV g, V.int 0])) tm (.tup ([V.ref dd, V.ref x, natV g, V.int 0] ++ [.int 0, .int 0]))) p (.ins C dx (nodeF tm 0 0 [])) p = some (.ins C dx (nodeF tm 0 0 [])) := upd_same
      generalize upd (upd (upd H1 t (.tup [V.ref dd, V.ref x, natV g, V.int 0])) tm (.tup ([V.ref dd, V.ref x, natV g, V.int 0] ++ [.int 0, .int 0]))) p (.ins C dx (nodeF tm 0 0 [])) = G5 at kp5 tm5 kt5 hp5
      refine ⟨_, rfl, _, rfl, p, C, dx, _, rfl, hp5, T.cl, nDe, ?_, ?_⟩
      · exact Nat.lt_of_le_of_lt (nodeF_le _ _ _ _) (by show 0 + 3 < _; decide)
      refine ⟨_, rfl, _, rfl, p, C, dx, _, rfl, upd_same, T.cl, nTa, ?_, ?_⟩
      · exact Nat.lt_of_le_of_lt (Nat.le_trans (putF_le _ _ _) (Nat.succ_le_succ (nodeF_le _ _ _ _))) (by show 0 + 3 + 1 < _; decide)
      refine ⟨_, rfl, _, rfl, p, C, dx, _, rfl, upd_same, T.cl, nGi, ?_, ?_⟩
      · exact Nat.lt_of_le_of_lt (Nat.le_trans (putF_le _ _ _) (Nat.succ_le_succ (Nat.le_trans (putF_le _ _ _) (Nat.succ_le_succ (nodeF_le _ _ _ _))))) (by show 0 + 3 + 1 + 1 < _; decide)
      refine ⟨_, rfl, _, rfl, p, C, dx, _, rfl, upd_same, T.cl, nFi, ?_, ?_⟩
      · exact Nat.lt_of_le_of_lt (Nat.le_trans (putF_le _ _ _) (Nat.succ_le_succ (Nat.le_trans (putF_le _ _ _) (Nat.succ_le_succ (Nat.le_trans (putF_le _ _ _) (Nat.succ_le_succ (nodeF_le _ _ _ _))))))) (by show 0 + 3 + 1 + 1 + 1 < _; decide)
      exact kk _ tm x _ (Kept.upd (Kept.upd (Kept.upd (Kept.upd ((Kept.same s1).trans (kp4.trans kp5)))))) upd_same (NdF.put (NdF.put (NdF.put (NdF.put (ndF_mk (own := []) (fun m => rfl) rfl rfl rfl) "deed" _ (by decide +kernel) (by decide +kernel) (by decide +kernel)) "taken" _ (by decide +kernel) (by decide +kernel) (by decide +kernel)) "given" _ (by decide +kernel) (by decide +kernel) (by decide +kernel)) "first" _ (by decide +kernel) (by decide +kernel) (by decide +kernel)) (KT.ins upd_same _ _ (KT.ins upd_same _ _ (KT.ins upd_same _ _ (KT.ins hp5 _ _ (tm5))))) (KT.ins upd_same _ _ (KT.ins upd_same _ _ (KT.ins upd_same _ _ (KT.ins hp5 _ _ (kt5 _ _ (kt4 _ _ au1))))))
    | _ => cases e
end
end Sw
namespace Sw
open PySem PySem.Spec PyProof.Rows L2
/-! ### what nodes take, and when they are equal -/
def AtS (K : PySem.W.Frag) (cl : Srt → Addr) (dd : Addr) (A : Srt) (a : Addr) (ts : List Nat) (H : Hp) : Prop := ∃ s, srt s = A ∧ SpecOk s ∧ tks s = ts ∧ NodeS K cl dd s a H
def spTkS (K : PySem.W.Frag) (cl : Srt → Addr) (dd : Addr) (A : Srt) : Sp := fun vs H Q _ => ∃ (a : Addr) (ts : List Nat), vs = [.ref a] ∧ AtS K cl dd A a ts H ∧ ∀ t H', Same H H' → SqT K H' t (ts.map fun (n : Nat) => V.int (n : Int)) → Q (.ref t) H'
def RS (K : PySem.W.Frag) (cl : Srt → Addr) (dd : Addr) (A : Srt) (a b : Addr) (H : Hp) : Prop := ∃ s, srt s = A ∧ NodeS K cl dd s a H ∧ NodeS K cl dd s b H
/-- the same object -/
def DSame : Eqv := fun x y _ => x = y ∧ ∃ a, x = .ref a
theorem mon_same : Mon DSame := fun _ _ _ _ _ d => d
theorem eqG_same {X : Cx} : EqG X 0 DSame := by
  intro A pins s σ H x y u v sb I rx ry d
  obtain ⟨rfl, a, rfl⟩ := d
  cases rx
  cases ry
  exact SeqAt.EqAt.same (A := A) (s := s) (.ref a) X.prog X.w X.xe _ ⟨rfl, H, I, Ext.rfl'⟩
def DEl (K : PySem.W.Frag) : Eqv := fun x y H => ((DFlat x y H ∨ DSame x y H) ∨ DTup K DFlat x y H) ∨ DList DFlat x y H
theorem mon_el {K : PySem.W.Frag} : Mon (DEl K) := Mon.or (Mon.or (Mon.or mon_flat mon_same) (mon_tup mon_flat)) (mon_list mon_flat)
theorem eqG_el {X : Cx} : EqG X 1 (DEl X.K) := EqG.or (EqG.or (EqG.or (eqG_flat.mono (Nat.zero_le _)) (eqG_same.mono (Nat.zero_le _))) (eqG_tup mon_flat eqG_flat)) (eqG_list mon_flat eqG_flat)
theorem rc_made {X : Cx} : RcG X 2 (DTup X.K (DEl X.K)) := rcG_tup mon_el eqG_el
theorem el_int {K : PySem.W.Frag} {H : Hp} (i : Int) : DEl K (.int i) (.int i) H := .inl (.inl (.inl ⟨rfl, rfl, by simp [eqV]⟩))
theorem el_nat {K : PySem.W.Frag} {H : Hp} (n : Nat) : DEl K (natV n) (natV n) H := el_int _
theorem el_bl {K : PySem.W.Frag} {H : Hp} (b : Bool) : DEl K (.bl b) (.bl b) H := .inl (.inl (.inl ⟨rfl, rfl, by simp [eqV]⟩))
theorem prs_nats {H : Hp} : ∀ ts : List Nat, Prs DFlat (ts.map natV) (ts.map natV) H
  | [] => Prs.nil
  | t :: r => Prs.cons ⟨rfl, rfl, by simp [eqV, natV]⟩ (prs_nats r)
theorem made_prs {K : PySem.W.Frag} {H : Hp} {dd x y : Addr} {s : Spec} (h1 : auxS K H x s) (h2 : auxS K H y s) : Prs (DEl K) (madeS dd x s) (madeS dd y s) H := by
  cases s with
  | gain b l g => exact .cons (el_int _) (.cons (el_nat _) (.cons (el_nat _) .nil))
  | mix n => exact .cons (el_nat _) (.cons (el_int _) (.cons (el_int _) .nil))
  | up n => exact .cons (el_nat _) (.cons (el_bl _) (.cons (el_int _) (.cons (el_int _) .nil)))
  | down n => exact .cons (el_nat _) (.cons (el_int _) (.cons (el_int _) .nil))
  | resample u d => exact .cons (el_nat _) (.cons (el_nat _) (.cons (.inr ⟨x, y, _, _, rfl, rfl, h1, h2, .cons ⟨rfl, rfl, by simp [eqV]⟩ (.cons ⟨rfl, rfl, by simp [eqV]⟩ .nil)⟩) (.cons (el_int _) (.cons (el_int _) .nil))))
  | own ts g => exact .cons (.inl (.inl (.inr ⟨rfl, _, rfl⟩))) (.cons (.inl (.inr ⟨x, y, _, _, rfl, rfl, h1, h2, prs_nats ts⟩)) (.cons (el_nat _) (.cons (el_int _) (.cons (el_int _) (.cons (el_int _) .nil)))))
  | _ => exact .cons (el_int _) (.cons (el_int _) .nil)
theorem NodeS.lk {K : PySem.W.Frag} {cl : Srt → Addr} {dd a d : Addr} {s : Spec} {H : Hp} {kvs : List (Key × V)} {o : HO} (h : NodeS K cl dd s a H) (e : H d = some (.dK kvs)) : NodeS K cl dd s a (L2.upd H d o) := by
  obtain ⟨dx, fs, tm, x, h1, h2, h3, h4⟩ := h
  refine ⟨dx, fs, tm, x, lock_ne e h1 (fun _ z => by cases z), h2, lock_tup e h3, ?_⟩
  cases s with
  | own ts g => exact lock_tup e h4
  | resample u d => exact lock_ne e h4 (fun _ z => by cases z)
  | _ => trivial
theorem NodeS.no {K : PySem.W.Frag} {cl : Srt → Addr} {dd a : Addr} {s : Spec} {H : Hp} (h : NodeS K cl dd s a H) : ∃ dx fs, H a = some (.ins (cl (srt s)) dx fs) ∧ fs.lookup ("takes" : Str) = none ∧ fs.lookup ("gives" : Str) = none := by
  obtain ⟨dx, fs, tm, x, h1, h2, h3, h4⟩ := h
  refine ⟨dx, fs, h1, ?_, ?_⟩
  · refine h2.no _ ?_ (by decide +kernel) (by decide +kernel) (by decide +kernel)
    cases s <;> rfl
  · refine h2.no _ ?_ (by decide +kernel) (by decide +kernel) (by decide +kernel)
    cases s <;> rfl
abbrev allS : List Srt := [.gain, .mix, .times, .choose, .up, .down, .resample, .own, .outlet, .inlet]
theorem mem_allS (A : Srt) : A ∈ allS := by
  cases A <;> decide
/-- the facts of the ten classes -/
structure ClsS (K : PySem.W.Frag) (cl : Srt → Addr) (CN CO CI : Addr) : Prop where
  nc : ∀ A, NodeC K (cl A)
  isN : ∀ A, InsC K (cl A) CN
  isS : ∀ A, InsC K (cl A) (cl A)
  isO : ∀ A, PySem.W.kitOne K (.ref (cl A)) (.ref CO) = some (decide (A = .outlet))
  isI : ∀ A, PySem.W.kitOne K (.ref (cl A)) (.ref CI) = some (decide (A = .inlet))
def sorts {K : PySem.W.Frag} {CN CO CI : Addr} (cl : Srt → Addr) (dd : Addr) (c : ClsS K cl CN CO CI) : Sorts K CN CO CI where
  α := Srt
  As := allS
  cl := cl
  at_ := AtS K cl dd
  out A := decide (A = .outlet)
  inl A := decide (A = .inlet)
  ins A a ts H h := by
    obtain ⟨s, rfl, _, _, h⟩ := h
    obtain ⟨dx, fs, h1, h2, _⟩ := h.no
    exact ⟨dx, fs, h1, h2⟩
  keep A a ts H H1 k h := by
    obtain ⟨s, h1, h2, h3, h⟩ := h
    exact ⟨s, h1, h2, h3, h.keep k⟩
  few A a ts H h := by
    obtain ⟨s, h1, h2, rfl, h⟩ := h
    exact tks_len h2
  dict A a ts H d kvs o e h := by
    obtain ⟨s, h1, h2, h3, h⟩ := h
    exact ⟨s, h1, h2, h3, h.lk e⟩
  cls A _ := (c.nc A).cl
  isN A _ := c.isN A
  isO A _ := c.isO A
  isI A _ := c.isI A
def infS (s : Spec) : NInf := ⟨tks s, isOut s, isInl s⟩
theorem NodeS.inn {K : PySem.W.Frag} {CN CO CI : Addr} {cl : Srt → Addr} {dd a : Addr} {c : ClsS K cl CN CO CI} {s : Spec} {H : Hp} (h : NodeS K cl dd s a H) (ok : SpecOk s) : NodeIn (sorts cl dd c) a (infS s) H := by
  refine ⟨srt s, mem_allS _, ⟨s, rfl, ok, rfl, h⟩, ?_, ?_⟩
  · show decide (srt s = .outlet) = isOut s
    cases s <;> rfl
  · show decide (srt s = .inlet) = isInl s
    cases s <;> rfl
section
variable {P : Program} {w : World} {K : PySem.W.Frag} {mg : Str → Option Value} {base : Heap} {f f1 f2 f3 f4 f5 f6 f7 f8 f9 C CN CO CI CW dd : Addr} {cl : Srt → Addr} {fd fd1 fd2 fd3 fd4 fd5 fd6 fd7 fd8 fd9 : FuncData}
abbrev nGainTakes : List Str := ["self"]
theorem scGainTakes : FnScope nGainTakes ["self"] (defScope sGainTakes) := ⟨rfl, rfl, rfl, by decide +kernel, rfl, by decide +kernel, by decide +kernel⟩
theorem ok_gainTakes (F : FnM K "takes" "Gain.takes" sGainTakes f fd)  : FnOk P w K mg base CX0 1 f fd ["self"] (spTkS K cl dd .gain) := by
  refine F.ok scGainTakes (fun vs H Q E h => ?_) (fun cdv A ou s H vs Q E hr h => ?_)
  · obtain ⟨a, ts, rfl, _⟩ := h
    rfl
  · obtain ⟨a, ts0, rfl, ⟨s, e, ok, rfl, dx, fs, tm, x, ha, nf, htm, au⟩, kk⟩ := h
    have nd := scGainTakes.nd
    cases s with
    | gain b l g =>
      refine ⟨_, PSs.nox (pss_one (ps_ret (pe_tup (pa_cons pe_int pa_nil)))), ?_⟩
      exact ⟨(by show 1 ≤ sizeLine; decide), fun t ht => kk t _ (Same.new (Same.refl _) ht) (.inl (.inl upd_same))⟩
    | _ => cases e
abbrev nGainEq : List Str := ["self", "other"]
theorem scGainEq : FnScope nGainEq ["self", "other"] (defScope sGainEq) := ⟨rfl, rfl, rfl, by decide +kernel, rfl, by decide +kernel, by decide +kernel⟩
theorem ok_gainEq (F : FnM K "__eq__" "Gain.__eq__" sGainEq f fd) (c : ClsS K cl CN CO CI) (gC : mg "Gain" = some (.ref (cl .gain))) (gIs : mg "isinstance" = none) : FnOk P w K mg base CX0 3 f fd ["self", "other"] (spEq (RS K cl dd .gain)) := by
  refine F.ok scGainEq (fun vs H Q E h => ?_) (fun cdv A ou s H vs Q E hr h => ?_)
  · obtain ⟨a, b, rfl, _⟩ := h
    rfl
  · obtain ⟨a, b, rfl, ⟨s, e, ⟨dx, fs, tm, x, ha, nf, htm, au⟩, dy, gs, tm', y, hb, nf', htm', au'⟩, kk⟩ := h
    have hr2 : Room 2 _ := hr
    have T := c.nc .gain
    have i := c.isS .gain
    rw [e] at ha hb
    refine ⟨_, PSs.nox (pss_one (ps_ret (pe_and (pe_callB call_isi (by rfl) gIs boot_isinstance (pa_cons (pv 1) (pa_cons (pe_glob (v := .ref (cl .gain)) rfl gC rfl) pa_nil))) (pe_one (pe_cmpR (op_eqG rc_made hr2) (pe_fld (pv 0) rfl) (pe_fld (pv 1) rfl) (nomark _)))))), ?_⟩
    refine ⟨_, rfl, _, _, _, _, true, rfl, ClsV.own _, i.ty T.cl hb, i.kit, _, rfl, iteT ?_⟩
    exact ⟨_, rfl, a, _, dx, _, _, rfl, ha, T.cl, T.nM, nf.made, _, rfl, b, _, dy, _, _, rfl, hb, T.cl, T.nM, nf'.made, ⟨tm, tm', _, _, rfl, rfl, htm, htm', made_prs au au'⟩, kk⟩
abbrev nMixTakes : List Str := ["self"]
theorem scMixTakes : FnScope nMixTakes ["self"] (defScope sMixTakes) := ⟨rfl, rfl, rfl, by decide +kernel, rfl, by decide +kernel, by decide +kernel⟩
theorem ok_mixTakes (F : FnM K "takes" "Mix.takes" sMixTakes f fd) (T : NodeC K (cl .mix)) (nM : NoAttr K (cl .mix) "many") : FnOk P w K mg base CX0 1 f fd ["self"] (spTkS K cl dd .mix) := by
  refine F.ok scMixTakes (fun vs H Q E h => ?_) (fun cdv A ou s H vs Q E hr h => ?_)
  · obtain ⟨a, ts, rfl, _⟩ := h
    rfl
  · obtain ⟨a, ts0, rfl, ⟨s, e, ok, rfl, dx, fs, tm, x, ha, nf, htm, au⟩, kk⟩ := h
    have nd := scMixTakes.nd
    cases s with
    | mix n =>
      refine ⟨_, PSs.nox (pss_one (ps_ret (pe_op op_times (pe_tup (pa_cons pe_int pa_nil)) (pe_fld (pv 0) rfl)))), ?_⟩
      obtain ⟨n1, n8⟩ := ok
      refine ⟨(by show 1 ≤ sizeLine; decide), fun t2 ht2 => ?_⟩
      have s2 := Same.new (o := .tup [V.int 1]) (Same.refl H) ht2
      refine ⟨_, rfl, a, _, dx, _, _, rfl, s2 _ _ ha, T.cl, nM, nf.fld _ _ rfl, t2, n, [V.int 1], rfl, rfl, .inl (.inl upd_same), (by simp), (by omega), (by show 1 ≤ 1000; decide), fun e => ?_, fun ne t5 ht5 => ?_⟩
      · refine kk t2 _ s2 ?_
        rw [e]
        exact .inl (.inl upd_same)
      · refine kk t5 _ (Same.new s2 ht5) ?_
        rw [ones]
        exact .inl (.inl upd_same)
    | _ => cases e
abbrev nMixEq : List Str := ["self", "other"]
theorem scMixEq : FnScope nMixEq ["self", "other"] (defScope sMixEq) := ⟨rfl, rfl, rfl, by decide +kernel, rfl, by decide +kernel, by decide +kernel⟩
theorem ok_mixEq (F : FnM K "__eq__" "Mix.__eq__" sMixEq f fd) (c : ClsS K cl CN CO CI) (gC : mg "Mix" = some (.ref (cl .mix))) (gIs : mg "isinstance" = none) : FnOk P w K mg base CX0 3 f fd ["self", "other"] (spEq (RS K cl dd .mix)) := by
  refine F.ok scMixEq (fun vs H Q E h => ?_) (fun cdv A ou s H vs Q E hr h => ?_)
  · obtain ⟨a, b, rfl, _⟩ := h
    rfl
  · obtain ⟨a, b, rfl, ⟨s, e, ⟨dx, fs, tm, x, ha, nf, htm, au⟩, dy, gs, tm', y, hb, nf', htm', au'⟩, kk⟩ := h
    have hr2 : Room 2 _ := hr
    have T := c.nc .mix
    have i := c.isS .mix
    rw [e] at ha hb
    refine ⟨_, PSs.nox (pss_one (ps_ret (pe_and (pe_callB call_isi (by rfl) gIs boot_isinstance (pa_cons (pv 1) (pa_cons (pe_glob (v := .ref (cl .mix)) rfl gC rfl) pa_nil))) (pe_one (pe_cmpR (op_eqG rc_made hr2) (pe_fld (pv 0) rfl) (pe_fld (pv 1) rfl) (nomark _)))))), ?_⟩
    refine ⟨_, rfl, _, _, _, _, true, rfl, ClsV.own _, i.ty T.cl hb, i.kit, _, rfl, iteT ?_⟩
    exact ⟨_, rfl, a, _, dx, _, _, rfl, ha, T.cl, T.nM, nf.made, _, rfl, b, _, dy, _, _, rfl, hb, T.cl, T.nM, nf'.made, ⟨tm, tm', _, _, rfl, rfl, htm, htm', made_prs au au'⟩, kk⟩
abbrev nTimesTakes : List Str := ["self"]
theorem scTimesTakes : FnScope nTimesTakes ["self"] (defScope sTimesTakes) := ⟨rfl, rfl, rfl, by decide +kernel, rfl, by decide +kernel, by decide +kernel⟩
theorem ok_timesTakes (F : FnM K "takes" "Times.takes" sTimesTakes f fd)  : FnOk P w K mg base CX0 1 f fd ["self"] (spTkS K cl dd .times) := by
  refine F.ok scTimesTakes (fun vs H Q E h => ?_) (fun cdv A ou s H vs Q E hr h => ?_)
  · obtain ⟨a, ts, rfl, _⟩ := h
    rfl
  · obtain ⟨a, ts0, rfl, ⟨s, e, ok, rfl, dx, fs, tm, x, ha, nf, htm, au⟩, kk⟩ := h
    have nd := scTimesTakes.nd
    cases s with
    | times =>
      refine ⟨_, PSs.nox (pss_one (ps_ret (pe_tup (pa_cons pe_int (pa_cons pe_int pa_nil))))), ?_⟩
      exact ⟨(by show 2 ≤ sizeLine; decide), fun t ht => kk t _ (Same.new (Same.refl _) ht) (.inl (.inl upd_same))⟩
    | _ => cases e
abbrev nTimesEq : List Str := ["self", "other"]
theorem scTimesEq : FnScope nTimesEq ["self", "other"] (defScope sTimesEq) := ⟨rfl, rfl, rfl, by decide +kernel, rfl, by decide +kernel, by decide +kernel⟩
theorem ok_timesEq (F : FnM K "__eq__" "Times.__eq__" sTimesEq f fd) (c : ClsS K cl CN CO CI) (gC : mg "Times" = some (.ref (cl .times))) (gIs : mg "isinstance" = none) : FnOk P w K mg base CX0 3 f fd ["self", "other"] (spEq (RS K cl dd .times)) := by
  refine F.ok scTimesEq (fun vs H Q E h => ?_) (fun cdv A ou s H vs Q E hr h => ?_)
  · obtain ⟨a, b, rfl, _⟩ := h
    rfl
  · obtain ⟨a, b, rfl, ⟨s, e, ⟨dx, fs, tm, x, ha, nf, htm, au⟩, dy, gs, tm', y, hb, nf', htm', au'⟩, kk⟩ := h
    have hr2 : Room 2 _ := hr
    have T := c.nc .times
    have i := c.isS .times
    rw [e] at ha hb
    refine ⟨_, PSs.nox (pss_one (ps_ret (pe_and (pe_callB call_isi (by rfl) gIs boot_isinstance (pa_cons (pv 1) (pa_cons (pe_glob (v := .ref (cl .times)) rfl gC rfl) pa_nil))) (pe_one (pe_cmpR (op_eqG rc_made hr2) (pe_fld (pv 0) rfl) (pe_fld (pv 1) rfl) (nomark _)))))), ?_⟩
    refine ⟨_, rfl, _, _, _, _, true, rfl, ClsV.own _, i.ty T.cl hb, i.kit, _, rfl, iteT ?_⟩
    exact ⟨_, rfl, a, _, dx, _, _, rfl, ha, T.cl, T.nM, nf.made, _, rfl, b, _, dy, _, _, rfl, hb, T.cl, T.nM, nf'.made, ⟨tm, tm', _, _, rfl, rfl, htm, htm', made_prs au au'⟩, kk⟩
abbrev nChooseTakes : List Str := ["self"]
theorem scChooseTakes : FnScope nChooseTakes ["self"] (defScope sChooseTakes) := ⟨rfl, rfl, rfl, by decide +kernel, rfl, by decide +kernel, by decide +kernel⟩
theorem ok_chooseTakes (F : FnM K "takes" "Choose.takes" sChooseTakes f fd)  : FnOk P w K mg base CX0 1 f fd ["self"] (spTkS K cl dd .choose) := by
  refine F.ok scChooseTakes (fun vs H Q E h => ?_) (fun cdv A ou s H vs Q E hr h => ?_)
  · obtain ⟨a, ts, rfl, _⟩ := h
    rfl
  · obtain ⟨a, ts0, rfl, ⟨s, e, ok, rfl, dx, fs, tm, x, ha, nf, htm, au⟩, kk⟩ := h
    have nd := scChooseTakes.nd
    cases s with
    | choose =>
      refine ⟨_, PSs.nox (pss_one (ps_ret (pe_tup (pa_cons pe_int (pa_cons pe_int (pa_cons pe_int pa_nil)))))), ?_⟩
      exact ⟨(by show 3 ≤ sizeLine; decide), fun t ht => kk t _ (Same.new (Same.refl _) ht) (.inl (.inl upd_same))⟩
    | _ => cases e
abbrev nChooseEq : List Str := ["self", "other"]
theorem scChooseEq : FnScope nChooseEq ["self", "other"] (defScope sChooseEq) := ⟨rfl, rfl, rfl, by decide +kernel, rfl, by decide +kernel, by decide +kernel⟩
theorem ok_chooseEq (F : FnM K "__eq__" "Choose.__eq__" sChooseEq f fd) (c : ClsS K cl CN CO CI) (gC : mg "Choose" = some (.ref (cl .choose))) (gIs : mg "isinstance" = none) : FnOk P w K mg base CX0 3 f fd ["self", "other"] (spEq (RS K cl dd .choose)) := by
  refine F.ok scChooseEq (fun vs H Q E h => ?_) (fun cdv A ou s H vs Q E hr h => ?_)
  · obtain ⟨a, b, rfl, _⟩ := h
    rfl
  · obtain ⟨a, b, rfl, ⟨s, e, ⟨dx, fs, tm, x, ha, nf, htm, au⟩, dy, gs, tm', y, hb, nf', htm', au'⟩, kk⟩ := h
    have hr2 : Room 2 _ := hr
    have T := c.nc .choose
    have i := c.isS .choose
    rw [e] at ha hb
    refine ⟨_, PSs.nox (pss_one (ps_ret (pe_and (pe_callB call_isi (by rfl) gIs boot_isinstance (pa_cons (pv 1) (pa_cons (pe_glob (v := .ref (cl .choose)) rfl gC rfl) pa_nil))) (pe_one (pe_cmpR (op_eqG rc_made hr2) (pe_fld (pv 0) rfl) (pe_fld (pv 1) rfl) (nomark _)))))), ?_⟩
    refine ⟨_, rfl, _, _, _, _, true, rfl, ClsV.own _, i.ty T.cl hb, i.kit, _, rfl, iteT ?_⟩
    exact ⟨_, rfl, a, _, dx, _, _, rfl, ha, T.cl, T.nM, nf.made, _, rfl, b, _, dy, _, _, rfl, hb, T.cl, T.nM, nf'.made, ⟨tm, tm', _, _, rfl, rfl, htm, htm', made_prs au au'⟩, kk⟩
abbrev nUpTakes : List Str := ["self"]
theorem scUpTakes : FnScope nUpTakes ["self"] (defScope sUpTakes) := ⟨rfl, rfl, rfl, by decide +kernel, rfl, by decide +kernel, by decide +kernel⟩
theorem ok_upTakes (F : FnM K "takes" "Up.takes" sUpTakes f fd)  : FnOk P w K mg base CX0 1 f fd ["self"] (spTkS K cl dd .up) := by
  refine F.ok scUpTakes (fun vs H Q E h => ?_) (fun cdv A ou s H vs Q E hr h => ?_)
  · obtain ⟨a, ts, rfl, _⟩ := h
    rfl
  · obtain ⟨a, ts0, rfl, ⟨s, e, ok, rfl, dx, fs, tm, x, ha, nf, htm, au⟩, kk⟩ := h
    have nd := scUpTakes.nd
    cases s with
    | up n =>
      refine ⟨_, PSs.nox (pss_one (ps_ret (pe_tup (pa_cons pe_int pa_nil)))), ?_⟩
      exact ⟨(by show 1 ≤ sizeLine; decide), fun t ht => kk t _ (Same.new (Same.refl _) ht) (.inl (.inl upd_same))⟩
    | _ => cases e
abbrev nUpEq : List Str := ["self", "other"]
theorem scUpEq : FnScope nUpEq ["self", "other"] (defScope sUpEq) := ⟨rfl, rfl, rfl, by decide +kernel, rfl, by decide +kernel, by decide +kernel⟩
theorem ok_upEq (F : FnM K "__eq__" "Up.__eq__" sUpEq f fd) (c : ClsS K cl CN CO CI) (gC : mg "Up" = some (.ref (cl .up))) (gIs : mg "isinstance" = none) : FnOk P w K mg base CX0 3 f fd ["self", "other"] (spEq (RS K cl dd .up)) := by
  refine F.ok scUpEq (fun vs H Q E h => ?_) (fun cdv A ou s H vs Q E hr h => ?_)
  · obtain ⟨a, b, rfl, _⟩ := h
    rfl
  · obtain ⟨a, b, rfl, ⟨s, e, ⟨dx, fs, tm, x, ha, nf, htm, au⟩, dy, gs, tm', y, hb, nf', htm', au'⟩, kk⟩ := h
    have hr2 : Room 2 _ := hr
    have T := c.nc .up
    have i := c.isS .up
    rw [e] at ha hb
    refine ⟨_, PSs.nox (pss_one (ps_ret (pe_and (pe_callB call_isi (by rfl) gIs boot_isinstance (pa_cons (pv 1) (pa_cons (pe_glob (v := .ref (cl .up)) rfl gC rfl) pa_nil))) (pe_one (pe_cmpR (op_eqG rc_made hr2) (pe_fld (pv 0) rfl) (pe_fld (pv 1) rfl) (nomark _)))))), ?_⟩
    refine ⟨_, rfl, _, _, _, _, true, rfl, ClsV.own _, i.ty T.cl hb, i.kit, _, rfl, iteT ?_⟩
    exact ⟨_, rfl, a, _, dx, _, _, rfl, ha, T.cl, T.nM, nf.made, _, rfl, b, _, dy, _, _, rfl, hb, T.cl, T.nM, nf'.made, ⟨tm, tm', _, _, rfl, rfl, htm, htm', made_prs au au'⟩, kk⟩
abbrev nDownTakes : List Str := ["self"]
theorem scDownTakes : FnScope nDownTakes ["self"] (defScope sDownTakes) := ⟨rfl, rfl, rfl, by decide +kernel, rfl, by decide +kernel, by decide +kernel⟩
theorem ok_downTakes (F : FnM K "takes" "Down.takes" sDownTakes f fd) (T : NodeC K (cl .down)) (nM : NoAttr K (cl .down) "many") : FnOk P w K mg base CX0 1 f fd ["self"] (spTkS K cl dd .down) := by
  refine F.ok scDownTakes (fun vs H Q E h => ?_) (fun cdv A ou s H vs Q E hr h => ?_)
  · obtain ⟨a, ts, rfl, _⟩ := h
    rfl
  · obtain ⟨a, ts0, rfl, ⟨s, e, ok, rfl, dx, fs, tm, x, ha, nf, htm, au⟩, kk⟩ := h
    have nd := scDownTakes.nd
    cases s with
    | down n =>
      refine ⟨_, PSs.nox (pss_one (ps_ret (pe_tup (pa_cons (pe_fld (pv 0) rfl) pa_nil)))), ?_⟩
      exact ⟨_, rfl, a, _, dx, _, _, rfl, ha, T.cl, nM, nf.fld _ _ rfl, (by show 1 ≤ sizeLine; decide), fun t ht => kk t _ (Same.new (Same.refl _) ht) (.inl (.inl upd_same))⟩
    | _ => cases e
abbrev nDownEq : List Str := ["self", "other"]
theorem scDownEq : FnScope nDownEq ["self", "other"] (defScope sDownEq) := ⟨rfl, rfl, rfl, by decide +kernel, rfl, by decide +kernel, by decide +kernel⟩
theorem ok_downEq (F : FnM K "__eq__" "Down.__eq__" sDownEq f fd) (c : ClsS K cl CN CO CI) (gC : mg "Down" = some (.ref (cl .down))) (gIs : mg "isinstance" = none) : FnOk P w K mg base CX0 3 f fd ["self", "other"] (spEq (RS K cl dd .down)) := by
  refine F.ok scDownEq (fun vs H Q E h => ?_) (fun cdv A ou s H vs Q E hr h => ?_)
  · obtain ⟨a, b, rfl, _⟩ := h
    rfl
  · obtain ⟨a, b, rfl, ⟨s, e, ⟨dx, fs, tm, x, ha, nf, htm, au⟩, dy, gs, tm', y, hb, nf', htm', au'⟩, kk⟩ := h
    have hr2 : Room 2 _ := hr
    have T := c.nc .down
    have i := c.isS .down
    rw [e] at ha hb
    refine ⟨_, PSs.nox (pss_one (ps_ret (pe_and (pe_callB call_isi (by rfl) gIs boot_isinstance (pa_cons (pv 1) (pa_cons (pe_glob (v := .ref (cl .down)) rfl gC rfl) pa_nil))) (pe_one (pe_cmpR (op_eqG rc_made hr2) (pe_fld (pv 0) rfl) (pe_fld (pv 1) rfl) (nomark _)))))), ?_⟩
    refine ⟨_, rfl, _, _, _, _, true, rfl, ClsV.own _, i.ty T.cl hb, i.kit, _, rfl, iteT ?_⟩
    exact ⟨_, rfl, a, _, dx, _, _, rfl, ha, T.cl, T.nM, nf.made, _, rfl, b, _, dy, _, _, rfl, hb, T.cl, T.nM, nf'.made, ⟨tm, tm', _, _, rfl, rfl, htm, htm', made_prs au au'⟩, kk⟩
abbrev nResampleTakes : List Str := ["self"]
theorem scResampleTakes : FnScope nResampleTakes ["self"] (defScope sResampleTakes) := ⟨rfl, rfl, rfl, by decide +kernel, rfl, by decide +kernel, by decide +kernel⟩
theorem ok_resampleTakes (F : FnM K "takes" "Resample.takes" sResampleTakes f fd) (T : NodeC K (cl .resample)) (nM : NoAttr K (cl .resample) "down") : FnOk P w K mg base CX0 1 f fd ["self"] (spTkS K cl dd .resample) := by
  refine F.ok scResampleTakes (fun vs H Q E h => ?_) (fun cdv A ou s H vs Q E hr h => ?_)
  · obtain ⟨a, ts, rfl, _⟩ := h
    rfl
  · obtain ⟨a, ts0, rfl, ⟨s, e, ok, rfl, dx, fs, tm, x, ha, nf, htm, au⟩, kk⟩ := h
    have nd := scResampleTakes.nd
    cases s with
    | resample u d =>
      refine ⟨_, PSs.nox (pss_one (ps_ret (pe_tup (pa_cons (pe_fld (pv 0) rfl) pa_nil)))), ?_⟩
      exact ⟨_, rfl, a, _, dx, _, _, rfl, ha, T.cl, nM, nf.fld _ _ rfl, (by show 1 ≤ sizeLine; decide), fun t ht => kk t _ (Same.new (Same.refl _) ht) (.inl (.inl upd_same))⟩
    | _ => cases e
abbrev nResampleEq : List Str := ["self", "other"]
theorem scResampleEq : FnScope nResampleEq ["self", "other"] (defScope sResampleEq) := ⟨rfl, rfl, rfl, by decide +kernel, rfl, by decide +kernel, by decide +kernel⟩
theorem ok_resampleEq (F : FnM K "__eq__" "Resample.__eq__" sResampleEq f fd) (c : ClsS K cl CN CO CI) (gC : mg "Resample" = some (.ref (cl .resample))) (gIs : mg "isinstance" = none) : FnOk P w K mg base CX0 3 f fd ["self", "other"] (spEq (RS K cl dd .resample)) := by
  refine F.ok scResampleEq (fun vs H Q E h => ?_) (fun cdv A ou s H vs Q E hr h => ?_)
  · obtain ⟨a, b, rfl, _⟩ := h
    rfl
  · obtain ⟨a, b, rfl, ⟨s, e, ⟨dx, fs, tm, x, ha, nf, htm, au⟩, dy, gs, tm', y, hb, nf', htm', au'⟩, kk⟩ := h
    have hr2 : Room 2 _ := hr
    have T := c.nc .resample
    have i := c.isS .resample
    rw [e] at ha hb
    refine ⟨_, PSs.nox (pss_one (ps_ret (pe_and (pe_callB call_isi (by rfl) gIs boot_isinstance (pa_cons (pv 1) (pa_cons (pe_glob (v := .ref (cl .resample)) rfl gC rfl) pa_nil))) (pe_one (pe_cmpR (op_eqG rc_made hr2) (pe_fld (pv 0) rfl) (pe_fld (pv 1) rfl) (nomark _)))))), ?_⟩
    refine ⟨_, rfl, _, _, _, _, true, rfl, ClsV.own _, i.ty T.cl hb, i.kit, _, rfl, iteT ?_⟩
    exact ⟨_, rfl, a, _, dx, _, _, rfl, ha, T.cl, T.nM, nf.made, _, rfl, b, _, dy, _, _, rfl, hb, T.cl, T.nM, nf'.made, ⟨tm, tm', _, _, rfl, rfl, htm, htm', made_prs au au'⟩, kk⟩
abbrev nOwnTakes : List Str := ["self"]
theorem scOwnTakes : FnScope nOwnTakes ["self"] (defScope sOwnTakes) := ⟨rfl, rfl, rfl, by decide +kernel, rfl, by decide +kernel, by decide +kernel⟩
theorem ok_ownTakes (F : FnM K "takes" "Own.takes" sOwnTakes f fd) (T : NodeC K (cl .own)) (nM : NoAttr K (cl .own) "taken") : FnOk P w K mg base CX0 1 f fd ["self"] (spTkS K cl dd .own) := by
  refine F.ok scOwnTakes (fun vs H Q E h => ?_) (fun cdv A ou s H vs Q E hr h => ?_)
  · obtain ⟨a, ts, rfl, _⟩ := h
    rfl
  · obtain ⟨a, ts0, rfl, ⟨s, e, ok, rfl, dx, fs, tm, x, ha, nf, htm, au⟩, kk⟩ := h
    have nd := scOwnTakes.nd
    cases s with
    | own ts g =>
      refine ⟨_, PSs.nox (pss_one (ps_ret (pe_fld (pv 0) rfl))), ?_⟩
      exact ⟨_, rfl, a, _, dx, _, _, rfl, ha, T.cl, nM, nf.fld _ _ rfl, kk x H (Same.refl _) au⟩
    | _ => cases e
abbrev nOwnEq : List Str := ["self", "other"]
theorem scOwnEq : FnScope nOwnEq ["self", "other"] (defScope sOwnEq) := ⟨rfl, rfl, rfl, by decide +kernel, rfl, by decide +kernel, by decide +kernel⟩
theorem ok_ownEq (F : FnM K "__eq__" "Own.__eq__" sOwnEq f fd) (c : ClsS K cl CN CO CI) (gC : mg "Own" = some (.ref (cl .own))) (gIs : mg "isinstance" = none) : FnOk P w K mg base CX0 3 f fd ["self", "other"] (spEq (RS K cl dd .own)) := by
  refine F.ok scOwnEq (fun vs H Q E h => ?_) (fun cdv A ou s H vs Q E hr h => ?_)
  · obtain ⟨a, b, rfl, _⟩ := h
    rfl
  · obtain ⟨a, b, rfl, ⟨s, e, ⟨dx, fs, tm, x, ha, nf, htm, au⟩, dy, gs, tm', y, hb, nf', htm', au'⟩, kk⟩ := h
    have hr2 : Room 2 _ := hr
    have T := c.nc .own
    have i := c.isS .own
    rw [e] at ha hb
    refine ⟨_, PSs.nox (pss_one (ps_ret (pe_and (pe_callB call_isi (by rfl) gIs boot_isinstance (pa_cons (pv 1) (pa_cons (pe_glob (v := .ref (cl .own)) rfl gC rfl) pa_nil))) (pe_one (pe_cmpR (op_eqG rc_made hr2) (pe_fld (pv 0) rfl) (pe_fld (pv 1) rfl) (nomark _)))))), ?_⟩
    refine ⟨_, rfl, _, _, _, _, true, rfl, ClsV.own _, i.ty T.cl hb, i.kit, _, rfl, iteT ?_⟩
    exact ⟨_, rfl, a, _, dx, _, _, rfl, ha, T.cl, T.nM, nf.made, _, rfl, b, _, dy, _, _, rfl, hb, T.cl, T.nM, nf'.made, ⟨tm, tm', _, _, rfl, rfl, htm, htm', made_prs au au'⟩, kk⟩
abbrev nOutletTakes : List Str := ["self"]
theorem scOutletTakes : FnScope nOutletTakes ["self"] (defScope sOutletTakes) := ⟨rfl, rfl, rfl, by decide +kernel, rfl, by decide +kernel, by decide +kernel⟩
theorem ok_outletTakes (F : FnM K "takes" "Outlet.takes" sOutletTakes f fd)  : FnOk P w K mg base CX0 1 f fd ["self"] (spTkS K cl dd .outlet) := by
  refine F.ok scOutletTakes (fun vs H Q E h => ?_) (fun cdv A ou s H vs Q E hr h => ?_)
  · obtain ⟨a, ts, rfl, _⟩ := h
    rfl
  · obtain ⟨a, ts0, rfl, ⟨s, e, ok, rfl, dx, fs, tm, x, ha, nf, htm, au⟩, kk⟩ := h
    have nd := scOutletTakes.nd
    cases s with
    | outlet =>
      refine ⟨_, PSs.nox (pss_one (ps_ret (pe_tup (pa_cons pe_int pa_nil)))), ?_⟩
      exact ⟨(by show 1 ≤ sizeLine; decide), fun t ht => kk t _ (Same.new (Same.refl _) ht) (.inl (.inl upd_same))⟩
    | _ => cases e
abbrev nOutletEq : List Str := ["self", "other"]
theorem scOutletEq : FnScope nOutletEq ["self", "other"] (defScope sOutletEq) := ⟨rfl, rfl, rfl, by decide +kernel, rfl, by decide +kernel, by decide +kernel⟩
theorem ok_outletEq (F : FnM K "__eq__" "Outlet.__eq__" sOutletEq f fd) (c : ClsS K cl CN CO CI) (gC : mg "Outlet" = some (.ref (cl .outlet))) (gIs : mg "isinstance" = none) : FnOk P w K mg base CX0 3 f fd ["self", "other"] (spEq (RS K cl dd .outlet)) := by
  refine F.ok scOutletEq (fun vs H Q E h => ?_) (fun cdv A ou s H vs Q E hr h => ?_)
  · obtain ⟨a, b, rfl, _⟩ := h
    rfl
  · obtain ⟨a, b, rfl, ⟨s, e, ⟨dx, fs, tm, x, ha, nf, htm, au⟩, dy, gs, tm', y, hb, nf', htm', au'⟩, kk⟩ := h
    have hr2 : Room 2 _ := hr
    have T := c.nc .outlet
    have i := c.isS .outlet
    rw [e] at ha hb
    refine ⟨_, PSs.nox (pss_one (ps_ret (pe_and (pe_callB call_isi (by rfl) gIs boot_isinstance (pa_cons (pv 1) (pa_cons (pe_glob (v := .ref (cl .outlet)) rfl gC rfl) pa_nil))) (pe_one (pe_cmpR (op_eqG rc_made hr2) (pe_fld (pv 0) rfl) (pe_fld (pv 1) rfl) (nomark _)))))), ?_⟩
    refine ⟨_, rfl, _, _, _, _, true, rfl, ClsV.own _, i.ty T.cl hb, i.kit, _, rfl, iteT ?_⟩
    exact ⟨_, rfl, a, _, dx, _, _, rfl, ha, T.cl, T.nM, nf.made, _, rfl, b, _, dy, _, _, rfl, hb, T.cl, T.nM, nf'.made, ⟨tm, tm', _, _, rfl, rfl, htm, htm', made_prs au au'⟩, kk⟩
abbrev nInletTakes : List Str := ["self"]
theorem scInletTakes : FnScope nInletTakes ["self"] (defScope sInletTakes) := ⟨rfl, rfl, rfl, by decide +kernel, rfl, by decide +kernel, by decide +kernel⟩
theorem ok_inletTakes (F : FnM K "takes" "Inlet.takes" sInletTakes f fd)  : FnOk P w K mg base CX0 1 f fd ["self"] (spTkS K cl dd .inlet) := by
  refine F.ok scInletTakes (fun vs H Q E h => ?_) (fun cdv A ou s H vs Q E hr h => ?_)
  · obtain ⟨a, ts, rfl, _⟩ := h
    rfl
  · obtain ⟨a, ts0, rfl, ⟨s, e, ok, rfl, dx, fs, tm, x, ha, nf, htm, au⟩, kk⟩ := h
    have nd := scInletTakes.nd
    cases s with
    | inlet =>
      refine ⟨_, PSs.nox (pss_one (ps_ret (pe_tup pa_nil))), ?_⟩
      exact ⟨(by show 0 ≤ sizeLine; decide), fun t ht => kk t _ (Same.new (Same.refl _) ht) (.inl (.inl upd_same))⟩
    | _ => cases e
abbrev nInletEq : List Str := ["self", "other"]
theorem scInletEq : FnScope nInletEq ["self", "other"] (defScope sInletEq) := ⟨rfl, rfl, rfl, by decide +kernel, rfl, by decide +kernel, by decide +kernel⟩
theorem ok_inletEq (F : FnM K "__eq__" "Inlet.__eq__" sInletEq f fd) (c : ClsS K cl CN CO CI) (gC : mg "Inlet" = some (.ref (cl .inlet))) (gIs : mg "isinstance" = none) : FnOk P w K mg base CX0 3 f fd ["self", "other"] (spEq (RS K cl dd .inlet)) := by
  refine F.ok scInletEq (fun vs H Q E h => ?_) (fun cdv A ou s H vs Q E hr h => ?_)
  · obtain ⟨a, b, rfl, _⟩ := h
    rfl
  · obtain ⟨a, b, rfl, ⟨s, e, ⟨dx, fs, tm, x, ha, nf, htm, au⟩, dy, gs, tm', y, hb, nf', htm', au'⟩, kk⟩ := h
    have hr2 : Room 2 _ := hr
    have T := c.nc .inlet
    have i := c.isS .inlet
    rw [e] at ha hb
    refine ⟨_, PSs.nox (pss_one (ps_ret (pe_and (pe_callB call_isi (by rfl) gIs boot_isinstance (pa_cons (pv 1) (pa_cons (pe_glob (v := .ref (cl .inlet)) rfl gC rfl) pa_nil))) (pe_one (pe_cmpR (op_eqG rc_made hr2) (pe_fld (pv 0) rfl) (pe_fld (pv 1) rfl) (nomark _)))))), ?_⟩
    refine ⟨_, rfl, _, _, _, _, true, rfl, ClsV.own _, i.ty T.cl hb, i.kit, _, rfl, iteT ?_⟩
    exact ⟨_, rfl, a, _, dx, _, _, rfl, ha, T.cl, T.nM, nf.made, _, rfl, b, _, dy, _, _, rfl, hb, T.cl, T.nM, nf'.made, ⟨tm, tm', _, _, rfl, rfl, htm, htm', made_prs au au'⟩, kk⟩
end
end Sw
namespace Sw
open PySem PySem.Spec PyProof.Rows L2
/-! ### two specs are shown alike only if they are one -/
abbrev tlx (x : Str) : List Nat := TL.tl x
def jn (zs : List (List Nat)) : List Nat := TL.joinL [44, 32] zs
theorem tl_tuple (ts : List Str) : tlx (tupleText ts) = 40 :: (jn (ts.map TL.tl) ++ (if ts.length = 1 then [44, 41] else [41])) := by
  unfold tupleText tlx
  rw [TL.tl_append, TL.tl_append, TL.tl_join]
  have e : TL.tl (", " : Str) = [44, 32] := by decide +kernel
  have e1 : TL.tl ("(" : Str) = [40] := by decide +kernel
  rw [e, e1]
  by_cases h : ts.length = 1
  · rw [if_pos h, if_pos (by rw [h]; rfl)]
    have : TL.tl (",)" : Str) = [44, 41] := by decide +kernel
    show [40] ++ _ ++ TL.tl (",)" : Str) = _
    rw [this]
    simp [jn]
  · rw [if_neg h, if_neg (by simpa using h)]
    have : TL.tl (")" : Str) = [41] := by decide +kernel
    show [40] ++ _ ++ TL.tl (")" : Str) = _
    rw [this]
    simp [jn]
theorem tl_nat {n : Nat} (h : n < 10) : TL.tl (PyData.shown (natD n)) = [48 + n] := by
  unfold natD
  rw [PyData.shown]
  exact (TL.tl_num n).trans (TL.numL_lt h)
def intL (b : Int) : List Nat := if b < 0 then [45, 48 + (-b).toNat] else if b < 10 then [48 + b.toNat] else [48 + b.toNat / 10, 48 + b.toNat % 10]
theorem tl_int {b : Int} (h1 : -9 ≤ b) (h2 : b ≤ 99) : TL.tl (PyData.shown (.int b)) = intL b := by
  by_cases z : 0 ≤ b
  · obtain ⟨n, rfl⟩ := Int.eq_ofNat_of_zero_le z
    unfold intL
    rw [if_neg (by omega)]
    by_cases y : n < 10
    · rw [if_pos (by omega)]
      exact (tl_nat (n := n) y).trans rfl
    · rw [if_neg (by omega), PyData.shown]
      refine (TL.tl_num n).trans ?_
      rw [TL.numL_step (by omega), TL.numL_lt (by omega)]
      rfl
  · have : b = -1 ∨ b = -2 ∨ b = -3 ∨ b = -4 ∨ b = -5 ∨ b = -6 ∨ b = -7 ∨ b = -8 ∨ b = -9 := by omega
    rw [PyData.shown]
    rcases this with rfl | rfl | rfl | rfl | rfl | rfl | rfl | rfl | rfl <;> decide +kernel
def tagL : Spec → List Nat
  | .gain _ _ _ => [39, 103, 97, 105, 110, 39]
  | .mix _ => [39, 109, 105, 120, 39]
  | .times => [39, 116, 105, 109, 101, 115, 39]
  | .choose => [39, 99, 104, 111, 111, 115, 101, 39]
  | .up _ => [39, 117, 112, 39]
  | .down _ => [39, 100, 111, 119, 110, 39]
  | .resample _ _ => [39, 114, 101, 115, 97, 109, 112, 108, 101, 39]
  | .own _ _ => [39, 111, 119, 110, 39]
  | .outlet => [39, 111, 117, 116, 108, 101, 116, 39]
  | .inlet => [39, 105, 110, 108, 101, 116, 39]
theorem tl_tag (s : Spec) : TL.tl (PyData.shown (.str (tagOf s))) = tagL s := by
  rw [PyData.shown]
  cases s with
  | gain b l g => show TL.tl (reprText "gain") = [39, 103, 97, 105, 110, 39]; decide +kernel
  | mix n => show TL.tl (reprText "mix") = [39, 109, 105, 120, 39]; decide +kernel
  | up n => show TL.tl (reprText "up") = [39, 117, 112, 39]; decide +kernel
  | down n => show TL.tl (reprText "down") = [39, 100, 111, 119, 110, 39]; decide +kernel
  | resample u d => show TL.tl (reprText "resample") = [39, 114, 101, 115, 97, 109, 112, 108, 101, 39]; decide +kernel
  | own ts g => show TL.tl (reprText "own") = [39, 111, 119, 110, 39]; decide +kernel
  | _ => decide +kernel
def tupL (ts : List Nat) : List Nat := 40 :: (jn (ts.map fun t => [48 + t]) ++ (if ts.length = 1 then [44, 41] else [41]))
def codeS : Spec → List Nat
  | .gain b l g => 40 :: (jn [tagL (.gain b l g), intL b, [48 + l], [48 + g]] ++ [41])
  | .mix n => 40 :: (jn [tagL (.mix n), [48 + n]] ++ [41])
  | .times => 40 :: (jn [tagL .times] ++ [44, 41])
  | .choose => 40 :: (jn [tagL .choose] ++ [44, 41])
  | .up n => 40 :: (jn [tagL (.up n), [48 + n]] ++ [41])
  | .down n => 40 :: (jn [tagL (.down n), [48 + n]] ++ [41])
  | .resample u d => 40 :: (jn [tagL (.resample u d), [48 + u], [48 + d]] ++ [41])
  | .own ts g => 40 :: (jn [tagL (.own ts g), tupL ts, [48 + g]] ++ [41])
  | .outlet => 40 :: (jn [tagL .outlet] ++ [44, 41])
  | .inlet => 40 :: (jn [tagL .inlet] ++ [44, 41])
theorem shownAll_map {α : Type} (f : α → PyData) : ∀ ks : List α, PyData.shownAll (ks.map f) = ks.map fun k => PyData.shown (f k)
  | [] => by rw [List.map_nil, PyData.shownAll]; rfl
  | k :: r => by rw [List.map_cons, PyData.shownAll, shownAll_map f r]; rfl
theorem tl_spec {s : Spec} (ok : SpecOk s) : TL.tl (PyData.shown (specD s)) = codeS s := by
  cases s with
  | gain b l g =>
    obtain ⟨b1, b2, l2, g2⟩ := ok
    unfold specD
    rw [PyData.shown]
    refine (tl_tuple _).trans ?_
    simp only [PyData.shownAll, List.map_cons, List.map_nil, List.length_cons, List.length_nil]
    have e := tl_tag (.gain b l g)
    rw [show tagOf (.gain b l g) = "gain" from rfl] at e
    rw [e, tl_int b1 b2, tl_nat (by omega), tl_nat (by omega)]
    rfl
  | mix n =>
    obtain ⟨n1, n8⟩ := ok
    unfold specD
    rw [PyData.shown]
    refine (tl_tuple _).trans ?_
    simp only [PyData.shownAll, List.map_cons, List.map_nil, List.length_cons, List.length_nil]
    have e := tl_tag (.mix n)
    rw [show tagOf (.mix n) = "mix" from rfl] at e
    rw [e, tl_nat (by omega)]
    rfl
  | up n =>
    obtain ⟨n1, n8⟩ := ok
    unfold specD
    rw [PyData.shown]
    refine (tl_tuple _).trans ?_
    simp only [PyData.shownAll, List.map_cons, List.map_nil, List.length_cons, List.length_nil]
    have e := tl_tag (.up n)
    rw [show tagOf (.up n) = "up" from rfl] at e
    rw [e, tl_nat (by omega)]
    rfl
  | down n =>
    obtain ⟨n1, n8⟩ := ok
    unfold specD
    rw [PyData.shown]
    refine (tl_tuple _).trans ?_
    simp only [PyData.shownAll, List.map_cons, List.map_nil, List.length_cons, List.length_nil]
    have e := tl_tag (.down n)
    rw [show tagOf (.down n) = "down" from rfl] at e
    rw [e, tl_nat (by omega)]
    rfl
  | resample u d =>
    obtain ⟨⟨u1, u8⟩, d1, d8⟩ := ok
    unfold specD
    rw [PyData.shown]
    refine (tl_tuple _).trans ?_
    simp only [PyData.shownAll, List.map_cons, List.map_nil, List.length_cons, List.length_nil]
    have e := tl_tag (.resample u d)
    rw [show tagOf (.resample u d) = "resample" from rfl] at e
    rw [e, tl_nat (by omega), tl_nat (by omega)]
    rfl
  | own ts g =>
    obtain ⟨t1, t4, dig, g1, g8⟩ := ok
    unfold specD
    rw [PyData.shown]
    refine (tl_tuple _).trans ?_
    simp only [PyData.shownAll, List.map_cons, List.map_nil, List.length_cons, List.length_nil]
    have e := tl_tag (.own ts g)
    rw [show tagOf (.own ts g) = "own" from rfl] at e
    have e2 : TL.tl (PyData.shown (.tuple (ts.map natD))) = tupL ts := by
      rw [PyData.shown]
      refine (tl_tuple _).trans ?_
      unfold tupL
      rw [shownAll_map, List.map_map, List.length_map]
      congr 2
      congr 1
      apply List.map_congr_left
      intro t ht
      have := (dig t ht).2
      exact tl_nat (by omega)
    rw [e, e2, tl_nat (by omega)]
    rfl
  | times =>
    unfold specD
    rw [PyData.shown]
    refine (tl_tuple _).trans ?_
    simp only [PyData.shownAll, List.map_cons, List.map_nil, List.length_cons, List.length_nil]
    have e := tl_tag .times
    rw [show tagOf .times = "times" from rfl] at e
    rw [e]
    rfl
  | choose =>
    unfold specD
    rw [PyData.shown]
    refine (tl_tuple _).trans ?_
    simp only [PyData.shownAll, List.map_cons, List.map_nil, List.length_cons, List.length_nil]
    have e := tl_tag .choose
    rw [show tagOf .choose = "choose" from rfl] at e
    rw [e]
    rfl
  | outlet =>
    unfold specD
    rw [PyData.shown]
    refine (tl_tuple _).trans ?_
    simp only [PyData.shownAll, List.map_cons, List.map_nil, List.length_cons, List.length_nil]
    have e := tl_tag .outlet
    rw [show tagOf .outlet = "outlet" from rfl] at e
    rw [e]
    rfl
  | inlet =>
    unfold specD
    rw [PyData.shown]
    refine (tl_tuple _).trans ?_
    simp only [PyData.shownAll, List.map_cons, List.map_nil, List.length_cons, List.length_nil]
    have e := tl_tag .inlet
    rw [show tagOf .inlet = "inlet" from rfl] at e
    rw [e]
    rfl
theorem few_cases {ts : List Nat} (h1 : 1 ≤ ts.length) (h4 : ts.length ≤ 4) : (∃ a, ts = [a]) ∨ (∃ a b, ts = [a, b]) ∨ (∃ a b c, ts = [a, b, c]) ∨ (∃ a b c d, ts = [a, b, c, d]) := by
  match ts, h1, h4 with
  | [a], _, _ => exact .inl ⟨a, rfl⟩
  | [a, b], _, _ => exact .inr (.inl ⟨a, b, rfl⟩)
  | [a, b, c], _, _ => exact .inr (.inr (.inl ⟨a, b, c, rfl⟩))
  | [a, b, c, d], _, _ => exact .inr (.inr (.inr ⟨a, b, c, d, rfl⟩))
  | a :: b :: c :: d :: e :: r, _, h => exact absurd h (by simp)
theorem code_inj {s s' : Spec} (ok : SpecOk s) (ok' : SpecOk s') (h : codeS s = codeS s') : s = s' := by
  cases s with
  | gain b l g =>
    cases s' with
    | gain b' l' g' =>
      obtain ⟨b1, b2, l2, g2⟩ := ok
      obtain ⟨b1', b2', l2', g2'⟩ := ok'
      by_cases z : b < 0 <;> by_cases z' : b' < 0 <;> by_cases y : b < 10 <;> by_cases y' : b' < 10
      all_goals simp [codeS, jn, TL.joinL, tagL, intL, z, z', y, y'] at h
      all_goals first
        | (exfalso; omega)
        | (obtain rfl : b = b' := by omega
           obtain rfl : l = l' := by omega
           obtain rfl : g = g' := by omega
           rfl)
    | _ => simp [codeS, jn, TL.joinL, tagL] at h
  | mix n =>
    cases s' with
    | mix n' =>
      simp [codeS, jn, TL.joinL, tagL] at h
      rw [h]
    | _ => simp [codeS, jn, TL.joinL, tagL] at h
  | up n =>
    cases s' with
    | up n' =>
      simp [codeS, jn, TL.joinL, tagL] at h
      rw [h]
    | _ => simp [codeS, jn, TL.joinL, tagL] at h
  | down n =>
    cases s' with
    | down n' =>
      simp [codeS, jn, TL.joinL, tagL] at h
      rw [h]
    | _ => simp [codeS, jn, TL.joinL, tagL] at h
  | resample u d =>
    cases s' with
    | resample u' d' =>
      simp [codeS, jn, TL.joinL, tagL] at h
      rw [h.1, h.2]
    | _ => simp [codeS, jn, TL.joinL, tagL] at h
  | own ts g =>
    cases s' with
    | own ts' g' =>
      rcases few_cases ok.1 ok.2.1 with ⟨a, rfl⟩ | ⟨a, b, rfl⟩ | ⟨a, b, c, rfl⟩ | ⟨a, b, c, d, rfl⟩ <;> rcases few_cases ok'.1 ok'.2.1 with ⟨a', rfl⟩ | ⟨a', b', rfl⟩ | ⟨a', b', c', rfl⟩ | ⟨a', b', c', d', rfl⟩
      all_goals simp [codeS, jn, TL.joinL, tagL, tupL] at h
      all_goals simp only [h]
    | _ => simp [codeS, jn, TL.joinL, tagL] at h
  | times =>
    cases s' with
    | times => rfl
    | _ => simp [codeS, jn, TL.joinL, tagL] at h
  | choose =>
    cases s' with
    | choose => rfl
    | _ => simp [codeS, jn, TL.joinL, tagL] at h
  | outlet =>
    cases s' with
    | outlet => rfl
    | _ => simp [codeS, jn, TL.joinL, tagL] at h
  | inlet =>
    cases s' with
    | inlet => rfl
    | _ => simp [codeS, jn, TL.joinL, tagL] at h
theorem shown_spec_inj {s s' : Spec} (ok : SpecOk s) (ok' : SpecOk s') (h : PyData.shown (specD s) = PyData.shown (specD s')) : s = s' := by
  refine code_inj ok ok' ?_
  rw [← tl_spec ok, ← tl_spec ok', h]
end Sw
namespace Sw
open PySem PySem.Spec PyProof.Rows L2
def spMade (K : PySem.W.Frag) (cl : Srt → Addr) (dd : Addr) : Sp := fun vs H Q _ => ∃ (v : V) (s : Spec), vs = [v] ∧ SpecAt K H v s ∧ SpecOk s ∧ ∀ (a : Addr) (H' : Hp), H a = none → Same H H' → NodeS K cl dd s a H' → Q (.ref a) H'
section
variable {P : Program} {w : World} {K : PySem.W.Frag} {mg : Str → Option Value} {base : Heap} {f f1 f2 f3 f4 f5 f6 f7 f8 f9 C CN CO CI CW dd : Addr} {cl : Srt → Addr} {fd fd1 fd2 fd3 fd4 fd5 fd6 fd7 fd8 fd9 : FuncData}
abbrev nLMade : List Str := ["_law_spec_here"]
theorem scLMade : FnScope nLMade ["_law_spec_here"] (defScope sLMade) := ⟨rfl, rfl, rfl, by decide +kernel, rfl, by decide +kernel, by decide +kernel⟩
theorem ok_made {i1 i2 i3 i4 i5 i6 i7 i8 i9 i10 : Addr} {e1 e2 e3 e4 e5 e6 e7 e8 e9 e10 : FuncData} {d2 d3 d4 d5 d6 d7 d8 d9 d10 : List Value} {gK : List Value → List Value → List Value} (F : FnP K "_law_made" sLMade f fd)
    (M1 : Mk K (cl .gain) i1) (G1 : FnOk P w K mg base CX0 4 i1 e1 ["self", "by", "late", "begin"] (spMk K .gain (cl .gain) dd)) (g1 : mg "Gain" = some (.ref (cl .gain))) (kb1 : KBn K e1 ["self", "by", "late", "begin"] 2 ["late", "begin"] gK (fun vs zs => vs ++ zs))
    (M2 : Mk K (cl .mix) i2) (G2 : FnOk P w K mg base CX0 4 i2 e2 ["self", "many", "late", "begin"] (spMk K .mix (cl .mix) dd)) (g2 : mg "Mix" = some (.ref (cl .mix))) (b2 : Binds K e2 ["self", "many", "late", "begin"] d2) (v2 : Vals [.int 0, .int 0] d2)
    (M3 : Mk K (cl .times) i3) (G3 : FnOk P w K mg base CX0 4 i3 e3 ["self", "late", "begin"] (spMk K .times (cl .times) dd)) (g3 : mg "Times" = some (.ref (cl .times))) (b3 : Binds K e3 ["self", "late", "begin"] d3) (v3 : Vals [.int 0, .int 0] d3)
    (M4 : Mk K (cl .choose) i4) (G4 : FnOk P w K mg base CX0 4 i4 e4 ["self", "late", "begin"] (spMk K .choose (cl .choose) dd)) (g4 : mg "Choose" = some (.ref (cl .choose))) (b4 : Binds K e4 ["self", "late", "begin"] d4) (v4 : Vals [.int 0, .int 0] d4)
    (M5 : Mk K (cl .up) i5) (G5 : FnOk P w K mg base CX0 4 i5 e5 ["self", "many", "hold", "late", "begin"] (spMk K .up (cl .up) dd)) (g5 : mg "Up" = some (.ref (cl .up))) (b5 : Binds K e5 ["self", "many", "hold", "late", "begin"] d5) (v5 : Vals [.bl false, .int 0, .int 0] d5)
    (M6 : Mk K (cl .down) i6) (G6 : FnOk P w K mg base CX0 4 i6 e6 ["self", "many", "late", "begin"] (spMk K .down (cl .down) dd)) (g6 : mg "Down" = some (.ref (cl .down))) (b6 : Binds K e6 ["self", "many", "late", "begin"] d6) (v6 : Vals [.int 0, .int 0] d6)
    (M7 : Mk K (cl .resample) i7) (G7 : FnOk P w K mg base CX0 4 i7 e7 ["self", "up", "down", "numbers", "late", "begin"] (spMk K .resample (cl .resample) dd)) (g7 : mg "Resample" = some (.ref (cl .resample))) (b7 : Binds K e7 ["self", "up", "down", "numbers", "late", "begin"] d7) (v7 : Vals [.int 0, .int 0] d7)
    (M8 : Mk K (cl .own) i8) (G8 : FnOk P w K mg base CX0 4 i8 e8 ["self", "deed", "takes", "gives", "first", "late", "begin"] (spMk K .own (cl .own) dd)) (g8 : mg "Own" = some (.ref (cl .own))) (b8 : Binds K e8 ["self", "deed", "takes", "gives", "first", "late", "begin"] d8) (v8 : Vals [.int 0, .int 0, .int 0] d8)
    (M9 : Mk K (cl .outlet) i9) (G9 : FnOk P w K mg base CX0 4 i9 e9 ["self"] (spMk K .outlet (cl .outlet) dd)) (g9 : mg "Outlet" = some (.ref (cl .outlet))) (b9 : Binds K e9 ["self"] d9) (v9 : Vals [] d9)
    (M10 : Mk K (cl .inlet) i10) (G10 : FnOk P w K mg base CX0 4 i10 e10 ["self"] (spMk K .inlet (cl .inlet) dd)) (g10 : mg "Inlet" = some (.ref (cl .inlet))) (b10 : Binds K e10 ["self"] d10) (v10 : Vals [] d10)
    (gDd : mg "_law_deed" = some (.ref dd)) : FnOk P w K mg base CX0 6 f fd ["_law_spec_here"] (spMade K cl dd) := by
  refine F.ok scLMade (fun vs H Q E h => ?_) (fun cdv A ou s H vs Q E hr h => ?_)
  · obtain ⟨v, s, rfl, _⟩ := h
    rfl
  · obtain ⟨v, sp, rfl, hs, ok, kk⟩ := h
    have nd := scLMade.nd
    refine ⟨_, PSs.nox (pss_cons (ps_if (pt_cmpR op_eq (pe_ix ix_tup (pv 0) pe_int (fun _ _ => rfl)) pe_str (nomark _)) (pss_one (ps_ret (pe_makeK M1 G1 hr rfl g1 kb1 pass0 (pa_cons (pe_ix ix_tup (pv 0) pe_int (fun _ _ => rfl)) pa_nil) (pk_cons (pe_ix ix_tup (pv 0) pe_int (fun _ _ => rfl)) (pk_cons (pe_ix ix_tup (pv 0) pe_int (fun _ _ => rfl)) pk_nil))))) pss_nil)
      (pss_cons (ps_if (pt_cmpR op_eq (pe_ix ix_tup (pv 0) pe_int (fun _ _ => rfl)) pe_str (nomark _)) (pss_one (ps_ret (pe_make M2 G2 hr rfl g2 b2 v2 pass0 (pa_cons (pe_ix ix_tup (pv 0) pe_int (fun _ _ => rfl)) pa_nil)))) pss_nil)
      (pss_cons (ps_if (pt_cmpR op_in_seq (pe_ix ix_tup (pv 0) pe_int (fun _ _ => rfl)) (pe_tup (pa_cons pe_str (pa_cons pe_str pa_nil))) rfl) (pss_one (ps_ret (pe_ifExp (pt_cmpR op_eq (pe_ix ix_tup (pv 0) pe_int (fun _ _ => rfl)) pe_str (nomark _)) (pe_make0 M3 G3 hr rfl g3 b3 v3 pass0) (pe_make0 M4 G4 hr rfl g4 b4 v4 pass0)))) pss_nil)
      (pss_cons (ps_if (pt_cmpR op_in_seq (pe_ix ix_tup (pv 0) pe_int (fun _ _ => rfl)) (pe_tup (pa_cons pe_str (pa_cons pe_str pa_nil))) rfl) (pss_one (ps_ret (pe_ifExp (pt_cmpR op_eq (pe_ix ix_tup (pv 0) pe_int (fun _ _ => rfl)) pe_str (nomark _)) (pe_make M5 G5 hr rfl g5 b5 v5 pass0 (pa_cons (pe_ix ix_tup (pv 0) pe_int (fun _ _ => rfl)) pa_nil)) (pe_make M6 G6 hr rfl g6 b6 v6 pass0 (pa_cons (pe_ix ix_tup (pv 0) pe_int (fun _ _ => rfl)) pa_nil))))) pss_nil)
      (pss_cons (ps_if (pt_cmpR op_eq (pe_ix ix_tup (pv 0) pe_int (fun _ _ => rfl)) pe_str (nomark _)) (pss_one (ps_ret (pe_make M7 G7 hr rfl g7 b7 v7 pass0 (pa_cons (pe_ix ix_tup (pv 0) pe_int (fun _ _ => rfl)) (pa_cons (pe_ix ix_tup (pv 0) pe_int (fun _ _ => rfl)) (pa_cons (pe_lst (pa_cons pe_int (pa_cons pe_int pa_nil))) pa_nil)))))) pss_nil)
      (pss_cons (ps_if (pt_cmpR op_eq (pe_ix ix_tup (pv 0) pe_int (fun _ _ => rfl)) pe_str (nomark _)) (pss_one (ps_ret (pe_make M8 G8 hr rfl g8 b8 v8 pass0 (pa_cons (pe_glob (v := .ref dd) rfl gDd rfl) (pa_cons (pe_ix ix_tup (pv 0) pe_int (fun _ _ => rfl)) (pa_cons (pe_ix ix_tup (pv 0) pe_int (fun _ _ => rfl)) pa_nil)))))) pss_nil)
      (pss_one (ps_ret (pe_ifExp (pt_cmpR op_eq (pe_ix ix_tup (pv 0) pe_int (fun _ _ => rfl)) pe_str (nomark _)) (pe_make0 M10 G10 hr rfl g10 b10 v10 pass0) (pe_make0 M9 G9 hr rfl g9 b9 v9 pass0)))))))))), ?_⟩
    obtain ⟨q, xs, rfl, hq, sv⟩ := hs.inv
    have fin : ∀ {G : Hp} {x dx tm x' : Addr} {B : Hp} {fs : List (Str × V)}, Same H G → G x = none → G dx = none → dx ≠ x → Kept x (upd (upd G dx (.own x)) x (.ins (cl (srt sp)) dx [])) B → B x = some (.ins (cl (srt sp)) dx fs) → NdF fs (ownS dd x' sp) tm (lateS sp) (begS sp) → SqT K B tm (madeS dd x' sp) → auxS K B x' sp → Q (.ref x) B := by
      intro G x dx tm x' B fs sG nx ndx ne k hx nf ht au
      exact kk x B (sG.free nx) (sG.trans (made_same nx ndx ne k)) ⟨dx, fs, tm, x', hx, nf, ht, au⟩
    cases sp with
    | gain b l g =>
      obtain rfl := sv
      have s0 : Same H H := Same.refl H
      refine ⟨_, rfl, q, _, _, _, rfl, rfl, Same.tup s0 hq, atI_nat (j := 0) rfl, rfl, _, rfl, iteT_ (by show decide (V.str "gain" = V.str "gain") = true; decide +kernel) ?_⟩
      exact ⟨_, rfl, q, _, _, _, rfl, rfl, Same.tup s0 hq, atI_nat (j := 1) rfl, _, rfl, q, _, _, _, rfl, rfl, Same.tup s0 hq, atI_nat (j := 2) rfl, _, rfl, q, _, _, _, rfl, rfl, Same.tup s0 hq, atI_nat (j := 3) rfl, rfl, rfl, fun x dx nx ndx ne => ⟨x, dx, x, _, rfl, rfl, ok, trivial, upd_same, fun fs tm x' B k hx nf ht au => ⟨rfl, fin s0 nx ndx ne k hx nf ht au⟩⟩⟩
    | mix n =>
      obtain rfl := sv
      have s0 : Same H H := Same.refl H
      refine ⟨_, rfl, q, _, _, _, rfl, rfl, Same.tup s0 hq, atI_nat (j := 0) rfl, rfl, _, rfl, iteF_ (by show decide (V.str "mix" = V.str "gain") = false; decide +kernel) ?_⟩
      refine ⟨_, rfl, q, _, _, _, rfl, rfl, Same.tup s0 hq, atI_nat (j := 0) rfl, rfl, _, rfl, iteT_ (by show decide (V.str "mix" = V.str "mix") = true; decide +kernel) ?_⟩
      exact ⟨_, rfl, q, _, _, _, rfl, rfl, Same.tup s0 hq, atI_nat (j := 1) rfl, fun x dx nx ndx ne => ⟨x, dx, x, _, rfl, rfl, ok, trivial, upd_same, fun fs tm x' B k hx nf ht au => ⟨rfl, fin s0 nx ndx ne k hx nf ht au⟩⟩⟩
    | times =>
      obtain rfl := sv
      have s0 : Same H H := Same.refl H
      refine ⟨_, rfl, q, _, _, _, rfl, rfl, Same.tup s0 hq, atI_nat (j := 0) rfl, rfl, _, rfl, iteF_ (by show decide (V.str "times" = V.str "gain") = false; decide +kernel) ?_⟩
      refine ⟨_, rfl, q, _, _, _, rfl, rfl, Same.tup s0 hq, atI_nat (j := 0) rfl, rfl, _, rfl, iteF_ (by show decide (V.str "times" = V.str "mix") = false; decide +kernel) ?_⟩
      refine ⟨_, rfl, q, _, _, _, rfl, rfl, Same.tup s0 hq, atI_nat (j := 0) rfl, (by show 2 ≤ sizeLine; decide), fun t0 ht0 => ?_⟩
      refine ⟨t0, _, rfl, .inr (.inl (.inl upd_same)), rfl, rfl, _, rfl, iteT_ (by show (if false = true then !inV (V.str "times") [V.str "times", V.str "choose"] else inV (V.str "times") [V.str "times", V.str "choose"]) = true; decide +kernel) ?_⟩
      have s1 := Same.new (o := .tup [V.str "times", V.str "choose"]) s0 ht0
      generalize upd H t0 (.tup [V.str "times", V.str "choose"]) = H1 at s1 ⊢
      refine ⟨_, rfl, q, _, _, _, rfl, rfl, Same.tup s1 hq, atI_nat (j := 0) rfl, rfl, _, rfl, iteT_ (by show decide (V.str "times" = V.str "times") = true; decide +kernel) ?_⟩
      exact fun x dx nx ndx ne => ⟨x, dx, x, _, rfl, rfl, ok, trivial, upd_same, fun fs tm x' B k hx nf ht au => ⟨rfl, fin s1 nx ndx ne k hx nf ht au⟩⟩
    | choose =>
      obtain rfl := sv
      have s0 : Same H H := Same.refl H
      refine ⟨_, rfl, q, _, _, _, rfl, rfl, Same.tup s0 hq, atI_nat (j := 0) rfl, rfl, _, rfl, iteF_ (by show decide (V.str "choose" = V.str "gain") = false; decide +kernel) ?_⟩
      refine ⟨_, rfl, q, _, _, _, rfl, rfl, Same.tup s0 hq, atI_nat (j := 0) rfl, rfl, _, rfl, iteF_ (by show decide (V.str "choose" = V.str "mix") = false; decide +kernel) ?_⟩
      refine ⟨_, rfl, q, _, _, _, rfl, rfl, Same.tup s0 hq, atI_nat (j := 0) rfl, (by show 2 ≤ sizeLine; decide), fun t0 ht0 => ?_⟩
      refine ⟨t0, _, rfl, .inr (.inl (.inl upd_same)), rfl, rfl, _, rfl, iteT_ (by show (if false = true then !inV (V.str "choose") [V.str "times", V.str "choose"] else inV (V.str "choose") [V.str "times", V.str "choose"]) = true; decide +kernel) ?_⟩
      have s1 := Same.new (o := .tup [V.str "times", V.str "choose"]) s0 ht0
      generalize upd H t0 (.tup [V.str "times", V.str "choose"]) = H1 at s1 ⊢
      refine ⟨_, rfl, q, _, _, _, rfl, rfl, Same.tup s1 hq, atI_nat (j := 0) rfl, rfl, _, rfl, iteF_ (by show decide (V.str "choose" = V.str "times") = false; decide +kernel) ?_⟩
      exact fun x dx nx ndx ne => ⟨x, dx, x, _, rfl, rfl, ok, trivial, upd_same, fun fs tm x' B k hx nf ht au => ⟨rfl, fin s1 nx ndx ne k hx nf ht au⟩⟩
    | up n =>
      obtain rfl := sv
      have s0 : Same H H := Same.refl H
      refine ⟨_, rfl, q, _, _, _, rfl, rfl, Same.tup s0 hq, atI_nat (j := 0) rfl, rfl, _, rfl, iteF_ (by show decide (V.str "up" = V.str "gain") = false; decide +kernel) ?_⟩
      refine ⟨_, rfl, q, _, _, _, rfl, rfl, Same.tup s0 hq, atI_nat (j := 0) rfl, rfl, _, rfl, iteF_ (by show decide (V.str "up" = V.str "mix") = false; decide +kernel) ?_⟩
      refine ⟨_, rfl, q, _, _, _, rfl, rfl, Same.tup s0 hq, atI_nat (j := 0) rfl, (by show 2 ≤ sizeLine; decide), fun t0 ht0 => ?_⟩
      refine ⟨t0, _, rfl, .inr (.inl (.inl upd_same)), rfl, rfl, _, rfl, iteF_ (by show (if false = true then !inV (V.str "up") [V.str "times", V.str "choose"] else inV (V.str "up") [V.str "times", V.str "choose"]) = false; decide +kernel) ?_⟩
      have s1 := Same.new (o := .tup [V.str "times", V.str "choose"]) s0 ht0
      generalize upd H t0 (.tup [V.str "times", V.str "choose"]) = H1 at s1 ⊢
      refine ⟨_, rfl, q, _, _, _, rfl, rfl, Same.tup s1 hq, atI_nat (j := 0) rfl, (by show 2 ≤ sizeLine; decide), fun t1 ht1 => ?_⟩
      refine ⟨t1, _, rfl, .inr (.inl (.inl upd_same)), rfl, rfl, _, rfl, iteT_ (by show (if false = true then !inV (V.str "up") [V.str "up", V.str "down"] else inV (V.str "up") [V.str "up", V.str "down"]) = true; decide +kernel) ?_⟩
      have s2 := Same.new (o := .tup [V.str "up", V.str "down"]) s1 ht1
      generalize upd H1 t1 (.tup [V.str "up", V.str "down"]) = H2 at s2 ⊢
      refine ⟨_, rfl, q, _, _, _, rfl, rfl, Same.tup s2 hq, atI_nat (j := 0) rfl, rfl, _, rfl, iteT_ (by show decide (V.str "up" = V.str "up") = true; decide +kernel) ?_⟩
      exact ⟨_, rfl, q, _, _, _, rfl, rfl, Same.tup s2 hq, atI_nat (j := 1) rfl, fun x dx nx ndx ne => ⟨x, dx, x, _, rfl, rfl, ok, trivial, upd_same, fun fs tm x' B k hx nf ht au => ⟨rfl, fin s2 nx ndx ne k hx nf ht au⟩⟩⟩
    | down n =>
      obtain rfl := sv
      have s0 : Same H H := Same.refl H
      refine ⟨_, rfl, q, _, _, _, rfl, rfl, Same.tup s0 hq, atI_nat (j := 0) rfl, rfl, _, rfl, iteF_ (by show decide (V.str "down" = V.str "gain") = false; decide +kernel) ?_⟩
      refine ⟨_, rfl, q, _, _, _, rfl, rfl, Same.tup s0 hq, atI_nat (j := 0) rfl, rfl, _, rfl, iteF_ (by show decide (V.str "down" = V.str "mix") = false; decide +kernel) ?_⟩
      refine ⟨_, rfl, q, _, _, _, rfl, rfl, Same.tup s0 hq, atI_nat (j := 0) rfl, (by show 2 ≤ sizeLine; decide), fun t0 ht0 => ?_⟩
      refine ⟨t0, _, rfl, .inr (.inl (.inl upd_same)), rfl, rfl, _, rfl, iteF_ (by show (if false = true then !inV (V.str "down") [V.str "times", V.str "choose"] else inV (V.str "down") [V.str "times", V.str "choose"]) = false; decide +kernel) ?_⟩
      have s1 := Same.new (o := .tup [V.str "times", V.str "choose"]) s0 ht0
      generalize upd H t0 (.tup [V.str "times", V.str "choose"]) = H1 at s1 ⊢
      refine ⟨_, rfl, q, _, _, _, rfl, rfl, Same.tup s1 hq, atI_nat (j := 0) rfl, (by show 2 ≤ sizeLine; decide), fun t1 ht1 => ?_⟩
      refine ⟨t1, _, rfl, .inr (.inl (.inl upd_same)), rfl, rfl, _, rfl, iteT_ (by show (if false = true then !inV (V.str "down") [V.str "up", V.str "down"] else inV (V.str "down") [V.str "up", V.str "down"]) = true; decide +kernel) ?_⟩
      have s2 := Same.new (o := .tup [V.str "up", V.str "down"]) s1 ht1
      generalize upd H1 t1 (.tup [V.str "up", V.str "down"]) = H2 at s2 ⊢
      refine ⟨_, rfl, q, _, _, _, rfl, rfl, Same.tup s2 hq, atI_nat (j := 0) rfl, rfl, _, rfl, iteF_ (by show decide (V.str "down" = V.str "up") = false; decide +kernel) ?_⟩
      exact ⟨_, rfl, q, _, _, _, rfl, rfl, Same.tup s2 hq, atI_nat (j := 1) rfl, fun x dx nx ndx ne => ⟨x, dx, x, _, rfl, rfl, ok, trivial, upd_same, fun fs tm x' B k hx nf ht au => ⟨rfl, fin s2 nx ndx ne k hx nf ht au⟩⟩⟩
    | resample u d =>
      obtain rfl := sv
      have s0 : Same H H := Same.refl H
      refine ⟨_, rfl, q, _, _, _, rfl, rfl, Same.tup s0 hq, atI_nat (j := 0) rfl, rfl, _, rfl, iteF_ (by show decide (V.str "resample" = V.str "gain") = false; decide +kernel) ?_⟩
      refine ⟨_, rfl, q, _, _, _, rfl, rfl, Same.tup s0 hq, atI_nat (j := 0) rfl, rfl, _, rfl, iteF_ (by show decide (V.str "resample" = V.str "mix") = false; decide +kernel) ?_⟩
      refine ⟨_, rfl, q, _, _, _, rfl, rfl, Same.tup s0 hq, atI_nat (j := 0) rfl, (by show 2 ≤ sizeLine; decide), fun t0 ht0 => ?_⟩
      refine ⟨t0, _, rfl, .inr (.inl (.inl upd_same)), rfl, rfl, _, rfl, iteF_ (by show (if false = true then !inV (V.str "resample") [V.str "times", V.str "choose"] else inV (V.str "resample") [V.str "times", V.str "choose"]) = false; decide +kernel) ?_⟩
      have s1 := Same.new (o := .tup [V.str "times", V.str "choose"]) s0 ht0
      generalize upd H t0 (.tup [V.str "times", V.str "choose"]) = H1 at s1 ⊢
      refine ⟨_, rfl, q, _, _, _, rfl, rfl, Same.tup s1 hq, atI_nat (j := 0) rfl, (by show 2 ≤ sizeLine; decide), fun t1 ht1 => ?_⟩
      refine ⟨t1, _, rfl, .inr (.inl (.inl upd_same)), rfl, rfl, _, rfl, iteF_ (by show (if false = true then !inV (V.str "resample") [V.str "up", V.str "down"] else inV (V.str "resample") [V.str "up", V.str "down"]) = false; decide +kernel) ?_⟩
      have s2 := Same.new (o := .tup [V.str "up", V.str "down"]) s1 ht1
      generalize upd H1 t1 (.tup [V.str "up", V.str "down"]) = H2 at s2 ⊢
      refine ⟨_, rfl, q, _, _, _, rfl, rfl, Same.tup s2 hq, atI_nat (j := 0) rfl, rfl, _, rfl, iteT_ (by show decide (V.str "resample" = V.str "resample") = true; decide +kernel) ?_⟩
      refine ⟨_, rfl, q, _, _, _, rfl, rfl, Same.tup s2 hq, atI_nat (j := 1) rfl, _, rfl, q, _, _, _, rfl, rfl, Same.tup s2 hq, atI_nat (j := 2) rfl, (by show 2 ≤ sizeLine; decide), fun ln hln => ?_⟩
      have s3 := Same.new (o := .lst [V.int 1, V.int 2]) s2 hln
      have hl3 : upd H2 ln (.lst [V.int 1, V.int 2]) ln = some (.lst [V.int 1, V.int 2]) := upd_same
      generalize upd H2 ln (.lst [V.int 1, V.int 2]) = H3 at s3 hl3 ⊢
      exact fun x dx nx ndx ne => ⟨x, dx, ln, _, rfl, rfl, ok, (Same.new (Same.new (Same.refl H3) ndx) (by rw [upd_ne ne.symm]; exact nx) _ _ hl3), upd_same, fun fs tm x' B k hx nf ht au => ⟨rfl, fin s3 nx ndx ne k hx nf ht au⟩⟩
    | own ts g =>
      obtain ⟨tt, rfl, htt⟩ := sv
      have s0 : Same H H := Same.refl H
      refine ⟨_, rfl, q, _, _, _, rfl, rfl, Same.tup s0 hq, atI_nat (j := 0) rfl, rfl, _, rfl, iteF_ (by show decide (V.str "own" = V.str "gain") = false; decide +kernel) ?_⟩
      refine ⟨_, rfl, q, _, _, _, rfl, rfl, Same.tup s0 hq, atI_nat (j := 0) rfl, rfl, _, rfl, iteF_ (by show decide (V.str "own" = V.str "mix") = false; decide +kernel) ?_⟩
      refine ⟨_, rfl, q, _, _, _, rfl, rfl, Same.tup s0 hq, atI_nat (j := 0) rfl, (by show 2 ≤ sizeLine; decide), fun t0 ht0 => ?_⟩
      refine ⟨t0, _, rfl, .inr (.inl (.inl upd_same)), rfl, rfl, _, rfl, iteF_ (by show (if false = true then !inV (V.str "own") [V.str "times", V.str "choose"] else inV (V.str "own") [V.str "times", V.str "choose"]) = false; decide +kernel) ?_⟩
      have s1 := Same.new (o := .tup [V.str "times", V.str "choose"]) s0 ht0
      generalize upd H t0 (.tup [V.str "times", V.str "choose"]) = H1 at s1 ⊢
      refine ⟨_, rfl, q, _, _, _, rfl, rfl, Same.tup s1 hq, atI_nat (j := 0) rfl, (by show 2 ≤ sizeLine; decide), fun t1 ht1 => ?_⟩
      refine ⟨t1, _, rfl, .inr (.inl (.inl upd_same)), rfl, rfl, _, rfl, iteF_ (by show (if false = true then !inV (V.str "own") [V.str "up", V.str "down"] else inV (V.str "own") [V.str "up", V.str "down"]) = false; decide +kernel) ?_⟩
      have s2 := Same.new (o := .tup [V.str "up", V.str "down"]) s1 ht1
      generalize upd H1 t1 (.tup [V.str "up", V.str "down"]) = H2 at s2 ⊢
      refine ⟨_, rfl, q, _, _, _, rfl, rfl, Same.tup s2 hq, atI_nat (j := 0) rfl, rfl, _, rfl, iteF_ (by show decide (V.str "own" = V.str "resample") = false; decide +kernel) ?_⟩
      refine ⟨_, rfl, q, _, _, _, rfl, rfl, Same.tup s2 hq, atI_nat (j := 0) rfl, rfl, _, rfl, iteT_ (by show decide (V.str "own" = V.str "own") = true; decide +kernel) ?_⟩
      exact ⟨_, rfl, q, _, _, _, rfl, rfl, Same.tup s2 hq, atI_nat (j := 1) rfl, _, rfl, q, _, _, _, rfl, rfl, Same.tup s2 hq, atI_nat (j := 2) rfl, fun x dx nx ndx ne => ⟨x, dx, tt, _, rfl, rfl, ok, Same.tup (Same.new (Same.new s2 ndx) (by rw [upd_ne ne.symm]; exact nx)) htt, upd_same, fun fs tm x' B k hx nf ht au => ⟨rfl, fin s2 nx ndx ne k hx nf ht au⟩⟩⟩
    | outlet =>
      obtain rfl := sv
      have s0 : Same H H := Same.refl H
      refine ⟨_, rfl, q, _, _, _, rfl, rfl, Same.tup s0 hq, atI_nat (j := 0) rfl, rfl, _, rfl, iteF_ (by show decide (V.str "outlet" = V.str "gain") = false; decide +kernel) ?_⟩
      refine ⟨_, rfl, q, _, _, _, rfl, rfl, Same.tup s0 hq, atI_nat (j := 0) rfl, rfl, _, rfl, iteF_ (by show decide (V.str "outlet" = V.str "mix") = false; decide +kernel) ?_⟩
      refine ⟨_, rfl, q, _, _, _, rfl, rfl, Same.tup s0 hq, atI_nat (j := 0) rfl, (by show 2 ≤ sizeLine; decide), fun t0 ht0 => ?_⟩
      refine ⟨t0, _, rfl, .inr (.inl (.inl upd_same)), rfl, rfl, _, rfl, iteF_ (by show (if false = true then !inV (V.str "outlet") [V.str "times", V.str "choose"] else inV (V.str "outlet") [V.str "times", V.str "choose"]) = false; decide +kernel) ?_⟩
      have s1 := Same.new (o := .tup [V.str "times", V.str "choose"]) s0 ht0
      generalize upd H t0 (.tup [V.str "times", V.str "choose"]) = H1 at s1 ⊢
      refine ⟨_, rfl, q, _, _, _, rfl, rfl, Same.tup s1 hq, atI_nat (j := 0) rfl, (by show 2 ≤ sizeLine; decide), fun t1 ht1 => ?_⟩
      refine ⟨t1, _, rfl, .inr (.inl (.inl upd_same)), rfl, rfl, _, rfl, iteF_ (by show (if false = true then !inV (V.str "outlet") [V.str "up", V.str "down"] else inV (V.str "outlet") [V.str "up", V.str "down"]) = false; decide +kernel) ?_⟩
      have s2 := Same.new (o := .tup [V.str "up", V.str "down"]) s1 ht1
      generalize upd H1 t1 (.tup [V.str "up", V.str "down"]) = H2 at s2 ⊢
      refine ⟨_, rfl, q, _, _, _, rfl, rfl, Same.tup s2 hq, atI_nat (j := 0) rfl, rfl, _, rfl, iteF_ (by show decide (V.str "outlet" = V.str "resample") = false; decide +kernel) ?_⟩
      refine ⟨_, rfl, q, _, _, _, rfl, rfl, Same.tup s2 hq, atI_nat (j := 0) rfl, rfl, _, rfl, iteF_ (by show decide (V.str "outlet" = V.str "own") = false; decide +kernel) ?_⟩
      refine ⟨_, rfl, q, _, _, _, rfl, rfl, Same.tup s2 hq, atI_nat (j := 0) rfl, rfl, _, rfl, iteF_ (by show decide (V.str "outlet" = V.str "inlet") = false; decide +kernel) ?_⟩
      exact fun x dx nx ndx ne => ⟨x, dx, x, _, rfl, rfl, ok, trivial, upd_same, fun fs tm x' B k hx nf ht au => ⟨rfl, fin s2 nx ndx ne k hx nf ht au⟩⟩
    | inlet =>
      obtain rfl := sv
      have s0 : Same H H := Same.refl H
      refine ⟨_, rfl, q, _, _, _, rfl, rfl, Same.tup s0 hq, atI_nat (j := 0) rfl, rfl, _, rfl, iteF_ (by show decide (V.str "inlet" = V.str "gain") = false; decide +kernel) ?_⟩
      refine ⟨_, rfl, q, _, _, _, rfl, rfl, Same.tup s0 hq, atI_nat (j := 0) rfl, rfl, _, rfl, iteF_ (by show decide (V.str "inlet" = V.str "mix") = false; decide +kernel) ?_⟩
      refine ⟨_, rfl, q, _, _, _, rfl, rfl, Same.tup s0 hq, atI_nat (j := 0) rfl, (by show 2 ≤ sizeLine; decide), fun t0 ht0 => ?_⟩
      refine ⟨t0, _, rfl, .inr (.inl (.inl upd_same)), rfl, rfl, _, rfl, iteF_ (by show (if false = true then !inV (V.str "inlet") [V.str "times", V.str "choose"] else inV (V.str "inlet") [V.str "times", V.str "choose"]) = false; decide +kernel) ?_⟩
      have s1 := Same.new (o := .tup [V.str "times", V.str "choose"]) s0 ht0
      generalize upd H t0 (.tup [V.str "times", V.str "choose"]) = H1 at s1 ⊢
      refine ⟨_, rfl, q, _, _, _, rfl, rfl, Same.tup s1 hq, atI_nat (j := 0) rfl, (by show 2 ≤ sizeLine; decide), fun t1 ht1 => ?_⟩
      refine ⟨t1, _, rfl, .inr (.inl (.inl upd_same)), rfl, rfl, _, rfl, iteF_ (by show (if false = true then !inV (V.str "inlet") [V.str "up", V.str "down"] else inV (V.str "inlet") [V.str "up", V.str "down"]) = false; decide +kernel) ?_⟩
      have s2 := Same.new (o := .tup [V.str "up", V.str "down"]) s1 ht1
      generalize upd H1 t1 (.tup [V.str "up", V.str "down"]) = H2 at s2 ⊢
      refine ⟨_, rfl, q, _, _, _, rfl, rfl, Same.tup s2 hq, atI_nat (j := 0) rfl, rfl, _, rfl, iteF_ (by show decide (V.str "inlet" = V.str "resample") = false; decide +kernel) ?_⟩
      refine ⟨_, rfl, q, _, _, _, rfl, rfl, Same.tup s2 hq, atI_nat (j := 0) rfl, rfl, _, rfl, iteF_ (by show decide (V.str "inlet" = V.str "own") = false; decide +kernel) ?_⟩
      refine ⟨_, rfl, q, _, _, _, rfl, rfl, Same.tup s2 hq, atI_nat (j := 0) rfl, rfl, _, rfl, iteT_ (by show decide (V.str "inlet" = V.str "inlet") = true; decide +kernel) ?_⟩
      exact fun x dx nx ndx ne => ⟨x, dx, x, _, rfl, rfl, ok, trivial, upd_same, fun fs tm x' B k hx nf ht au => ⟨rfl, fin s2 nx ndx ne k hx nf ht au⟩⟩
end
end Sw
namespace Sw
open PySem PySem.Spec PyProof.Rows L2
/-! ### the pairs -/
def NmK (K : PySem.W.Frag) (cl : Srt → Addr) (dd : Addr) (H : Hp) (x : Nm) (k : Knot) : Prop := x.name = k.1 ∧ x.inf = infS k.2 ∧ NodeS K cl dd k.2 x.adr H
theorem NmK.keep {K : PySem.W.Frag} {cl : Srt → Addr} {dd : Addr} {H H1 : Hp} {x : Nm} {k : Knot} (h : NmK K cl dd H x k) (s : Same H H1) : NmK K cl dd H1 x k := ⟨h.1, h.2.1, h.2.2.keep s⟩
theorem nmK_map {K : PySem.W.Frag} {cl : Srt → Addr} {dd : Addr} {H : Hp} : ∀ {nm : List Nm} {ks : List Knot}, Al (NmK K cl dd H) nm ks → nm.map (fun x => (x.name, x.inf)) = ks.map (fun k => (k.1, infS k.2))
  | [], [], _ => rfl
  | x :: nm, k :: ks, h => by
    rw [List.map_cons, List.map_cons, nmK_map h.2, h.1.1, h.1.2.1]
  | [], _ :: _, h => h.elim
  | _ :: _, [], h => h.elim
def spPairs (K : PySem.W.Frag) (cl : Srt → Addr) (dd : Addr) : Sp := fun vs H Q _ => ∃ (l : Addr) (kv : List V) (ks : List Knot), vs = [.ref l] ∧ H l = some (.lst kv) ∧ DpAll K H kv (ks.map knotD) ∧ (∀ k ∈ ks, SpecOk k.2) ∧ ks.length ≤ 24 ∧ ∀ (l' : Addr) (nm : List Nm) (Hn H' : Hp), Same H Hn → Hn l' = none → Same Hn H' → PairsAt K H' l' nm → Al (NmK K cl dd Hn) nm ks → Q (.ref l') H'
theorem spec_shaped (s : Spec) : SeqAt.shaped (specD s) = true := by
  obtain ⟨h1, h2⟩ := spec_lay s
  unfold SeqAt.shaped
  rw [h1, decide_eq_true (by omega)]
  rfl
theorem show_nats : ∀ ts : List Nat, (∀ t ∈ ts, t < 10) → PyData.showableAll (ts.map natD) = true
  | [], _ => by rw [List.map_nil, PyData.showableAll]
  | t :: r, h => by
    have h1 := h t List.mem_cons_self
    have : (t : Int).natAbs.log2 < 1920 := by
      rw [Int.natAbs_natCast]
      exact Nat.lt_of_le_of_lt (Nat.log2_le_self t) (by omega)
    rw [List.map_cons, PyData.showableAll, show_nats r fun z hz => h z (List.mem_cons_of_mem _ hz)]
    unfold natD
    rw [PyData.showable, decide_eq_true this]
    rfl
theorem small_log {i : Int} (h : i.natAbs < 100) : decide (i.natAbs.log2 < 1920) = true := decide_eq_true (Nat.lt_of_le_of_lt (Nat.log2_le_self _) (by omega))
theorem spec_show {s : Spec} (ok : SpecOk s) : (specD s).showable = true := by
  cases s with
  | gain b l g =>
    obtain ⟨b1, b2, l2, g2⟩ := ok
    unfold specD natD
    simp only [PyData.showable, PyData.showableAll]
    rw [small_log (by omega), small_log (by omega), small_log (by omega)]
    rfl
  | mix n =>
    obtain ⟨n1, n8⟩ := ok
    unfold specD natD
    simp only [PyData.showable, PyData.showableAll]
    rw [small_log (by omega)]
    rfl
  | up n =>
    obtain ⟨n1, n8⟩ := ok
    unfold specD natD
    simp only [PyData.showable, PyData.showableAll]
    rw [small_log (by omega)]
    rfl
  | down n =>
    obtain ⟨n1, n8⟩ := ok
    unfold specD natD
    simp only [PyData.showable, PyData.showableAll]
    rw [small_log (by omega)]
    rfl
  | resample u d =>
    obtain ⟨⟨u1, u8⟩, d1, d8⟩ := ok
    unfold specD natD
    simp only [PyData.showable, PyData.showableAll]
    rw [small_log (by omega), small_log (by omega)]
    rfl
  | own ts g =>
    obtain ⟨t1, t4, dig, g1, g8⟩ := ok
    unfold specD
    simp only [PyData.showable, PyData.showableAll]
    rw [show_nats ts fun t ht => by have := (dig t ht).2; omega]
    unfold natD
    rw [PyData.showable, small_log (by omega)]
    rfl
  | _ =>
    unfold specD
    simp only [PyData.showable, PyData.showableAll]
    rfl
theorem code_len {s : Spec} (ok : SpecOk s) : (codeS s).length ≤ 200 := by
  cases s with
  | own ts g =>
    obtain ⟨t1, t4, dig, g1, g8⟩ := ok
    rcases few_cases t1 t4 with ⟨a, rfl⟩ | ⟨a, b, rfl⟩ | ⟨a, b, c, rfl⟩ | ⟨a, b, c, d, rfl⟩ <;> simp [codeS, jn, TL.joinL, tagL, tupL]
  | gain b l g =>
    by_cases z : b < 0 <;> by_cases y : b < 10 <;> simp [codeS, jn, TL.joinL, tagL, intL, z, y]
  | _ => simp [codeS, jn, TL.joinL, tagL]
theorem spec_len {s : Spec} (ok : SpecOk s) : (PyData.shown (specD s)).length ≤ 200 := by
  rw [TL.len_tl, tl_spec ok]
  exact code_len ok
theorem valV_mem {kvs : List (Key × V)} {k : Key} {v : V} (h : valV kvs k = some v) : (k, v) ∈ kvs := by
  unfold valV at h
  cases e : kvs.find? (fun kv => decide (kv.1 = k)) with
  | none => rw [e] at h; cases h
  | some q =>
    rw [e] at h
    have h1 := List.mem_of_find?_eq_some e
    have h2 := List.find?_some e
    have h3 : q.1 = k := of_decide_eq_true h2
    have h4 : q.2 = v := Option.some.inj h
    rw [← h3, ← h4]
    exact h1
theorem valV_put {kvs : List (Key × V)} {k k' : Key} {v : V} (h : valV kvs k = none) : (valV (kvs ++ [(k, v)]) k').isSome = ((valV kvs k').isSome || decide (k = k')) := by
  unfold valV
  rw [List.find?_append]
  cases e : kvs.find? (fun kv => decide (kv.1 = k')) with
  | some q => rfl
  | none =>
    rw [List.find?_cons]
    by_cases z : k = k'
    · rw [decide_eq_true z]
      rfl
    · rw [decide_eq_false z]
      rfl
def keyS (s : Spec) : Key := Sum.inr (PyData.shown (specD s))
/-- each thing in the dict is a node of the spec that its key shows -/
def DicS (K : PySem.W.Frag) (cl : Srt → Addr) (dd : Addr) (H : Hp) (kvs : List (Key × V)) : Prop := ∀ e ∈ kvs, ∃ (s : Spec) (a : Addr), e = (keyS s, .ref a) ∧ SpecOk s ∧ NodeS K cl dd s a H
theorem DicS.keep {K : PySem.W.Frag} {cl : Srt → Addr} {dd : Addr} {H H1 : Hp} {kvs : List (Key × V)} (h : DicS K cl dd H kvs) (s : Same H H1) : DicS K cl dd H1 kvs := fun e he => by
  obtain ⟨sp, a, h1, h2, h3⟩ := h e he
  exact ⟨sp, a, h1, h2, h3.keep s⟩
theorem DicS.get {K : PySem.W.Frag} {cl : Srt → Addr} {dd : Addr} {H : Hp} {kvs : List (Key × V)} (h : DicS K cl dd H kvs) {s : Spec} (ok : SpecOk s) (hs : (valV kvs (keyS s)).isSome = true) : ∃ a, valV kvs (keyS s) = some (.ref a) ∧ NodeS K cl dd s a H := by
  obtain ⟨v, ev⟩ := Option.isSome_iff_exists.mp hs
  obtain ⟨s', a, e, ok', n⟩ := h _ (valV_mem ev)
  have e1 : PyData.shown (specD s) = PyData.shown (specD s') := Sum.inr.inj (congrArg Prod.fst e)
  have e2 : v = .ref a := congrArg Prod.snd e
  obtain rfl := shown_spec_inj ok ok' e1
  exact ⟨a, by rw [ev, e2], n⟩
section
variable {P : Program} {w : World} {K : PySem.W.Frag} {mg : Str → Option Value} {base : Heap} {f f1 f2 f3 f4 f5 f6 f7 f8 f9 C CN CO CI CW dd : Addr} {cl : Srt → Addr} {fd fd1 fd2 fd3 fd4 fd5 fd6 fd7 fd8 fd9 : FuncData}
abbrev nLPairs : List Str := ["_law_knots", "_law_made_here", "_law_tag", "_law_spec_here"]
theorem scLPairs : FnScope nLPairs ["_law_knots"] (defScope sLPairs) := ⟨rfl, rfl, rfl, by decide +kernel, rfl, by decide +kernel, by decide +kernel⟩
theorem ok_pairs (F : FnP K "_law_pairs" sLPairs f fd) (GM : FnOk P w K mg base CX0 6 f1 fd1 ["_law_spec_here"] (spMade K cl dd)) (gM : mg "_law_made" = some (.ref f1)) (kM : PySem.W.keepIn K (.ref f1) = true) (bM : Binds K fd1 ["_law_spec_here"] []) (gRepr : mg "repr" = none) : FnG P w K mg base CX0 7 f fd ["_law_knots"] (spPairs K cl dd) := by
  refine F.okG scLPairs (fun vs H Q E h => ?_) (fun cdv A ou s H vs Q E hr guard h => ?_)
  · obtain ⟨l, kv, ks, rfl, _⟩ := h
    rfl
  · obtain ⟨l, kv, ks, rfl, hl, dk, oks, few, kk⟩ := h
    have nd := scLPairs.nd
    have hr6 : Room 6 _ := hr
    have hu := hu_of hr
    have hun := hr.un
    have R : ∀ {X : Cx}, X.A = A.deeper (envOfC "_law_pairs" (defScope sLPairs) s.heap.objs.size f cdv) → CallR X (.builtin "repr") (rReprD X.K) := fun {X} e => call_reprD (by rw [e]; exact guard) (by rw [e]; omega)
    have RK : ∀ {X : Cx}, X.A = A.deeper (envOfC "_law_pairs" (defScope sLPairs) s.heap.objs.size f cdv) → X.K = K → CallR X (.builtin "repr") (rReprD K) := fun {X} e e2 => e2 ▸ call_reprD (by rw [e]; exact guard) (by rw [e]; omega)
    refine ⟨_, PSs.nox (pss_cons (ps_set (i := 1) nd rfl (Or.inr rfl) pe_dnewK)
      (pss_cons (ps_for PassesOwn.never rfl (pi_list (pv 0)) (pg_tup rfl (pgs_cons (pg_name (i := 2) nd rfl (Or.inl rfl)) (pgs_cons (pg_name (i := 3) nd rfl (Or.inl rfl)) pgs_nil)))
      (pss_one (ps_if (pt_cmp (pc_dnotin hu (pe_callB (R rfl) (by rfl) gRepr boot_repr (pa_cons (pv 3) pa_nil)) (pv 1))) (pss_one (ps_dput hu (pv 1) (pe_callB (R rfl) (by rfl) gRepr boot_repr (pa_cons (pv 3) pa_nil)) (pe_call GM hr6 rfl gM kM bM .nil pass0 (pa_cons (pv 3) pa_nil)) rfl)) pss_nil)))
      (pss_one (ps_ret (pe_lc (own := [("_law_tag", 2), ("_law_spec_here", 3)]) (g := (gTup K 2 (gCons (gName 2) (gCons (gName 3) gNil)))) (tt := tYes) rfl nd (pi_list (pv 0)) (blkOk_by (N := nLPairs) (sc := defScope sLPairs) (by decide +kernel))
        (fun _ _ _ _ _ => (pg_tup rfl (pgs_cons (pg_name (i := 2) nd rfl (Or.inl rfl)) (pgs_cons (pg_name (i := 3) nd rfl (Or.inl rfl)) pgs_nil)))) (fun _ _ _ _ _ => pts_nil) (fun _ _ _ _ _ => (pe_tup (pa_cons (pv 2) (pa_cons (pe_dget hu (pv 1) (pe_callB (RK rfl rfl) (by rfl) gRepr boot_repr (pa_cons (pv 3) pa_nil)) (fun _ _ => rfl)) pa_nil))))))))), ?_⟩
    have kvl : kv.length = ks.length := by rw [DpAll.len dk, List.length_map]
    have rp : ∀ {G : Hp} {sv : V} {sp : Spec}, SpecAt K G sv sp → SpecOk sp → ∃ a, sv = .ref a ∧ Dp K G (.ref a) (specD sp) ∧ (specD sp).shown.length ≤ sizeLine := fun {G sv sp} h ok => by
      obtain ⟨a, xs, rfl, _, _⟩ := h.inv
      exact ⟨a, rfl, h, Nat.le_trans (spec_len ok) (by decide)⟩
    refine fun d hd => ?_
    have s0 := Same.new (o := .dK []) (Same.refl H) hd
    refine ⟨_, rfl, l, rfl, ⟨_, SqL.of (s0 _ _ hl)⟩, ?_⟩
    refine for_list (xs := kv) (fun j σ G => ∃ (w2 w3 : Option V) (kvs : List (Key × V)), σ = [some (.ref l), some (.ref d), w2, w3] ∧ G d = some (.dK kvs) ∧ Same H G ∧ DicS K cl dd G kvs ∧ kvs.length ≤ j ∧ ∀ k ∈ ks.take j, (valV kvs (keyS k.2)).isSome = true) ⟨_, _, [], rfl, upd_same, Same.past (Same.refl _) hd, (fun _ h => (List.not_mem_nil h).elim), Nat.le_refl _, (fun k h => by rw [List.take_zero] at h; cases h)⟩ (fun j σ G _ e => by obtain ⟨_, _, _, _, _, sm, _⟩ := e; exact SqL.of (sm _ _ hl)) ?_ ?_
    · rintro j v σ G ev ⟨w2, w3, kvs, rfl, hG, sG, dic, kl, al⟩
      obtain ⟨k, ek, dkj⟩ := DpAll.map dk ev
      have km : k ∈ ks := List.mem_of_getElem? ek
      have ok := oks k km
      obtain ⟨q, sv, rfl, hq, hs⟩ := knot_inv dkj
      have jl := (List.getElem?_eq_some_iff.mp ek).1
      have hsG := hs.kt (KT.same sG)
      obtain ⟨a, rfl, dpG, len⟩ := rp hsG ok
      refine ⟨q, _, rfl, Same.tup sG hq, rfl, _, _, rfl, _, _, rfl, rfl, ?_⟩
      refine ⟨_, rfl, a, specD k.2, _, rfl, dpG, spec_shaped _, spec_show ok, len, rfl, _, rfl, d, _, rfl, DGet.k (k := keyS k.2) hG, _, rfl, ?_⟩
      have tk : ∀ kvs' : List (Key × V), (∀ k', (valV kvs k').isSome = true → (valV kvs' k').isSome = true) → (valV kvs' (keyS k.2)).isSome = true → ∀ k' ∈ ks.take (j + 1), (valV kvs' (keyS k'.2)).isSome = true := fun kvs' h1 h2 k' hk' => by
        rw [List.take_succ, ek] at hk'
        rcases List.mem_append.mp hk' with hk' | hk'
        · exact h1 _ (al k' hk')
        · rw [List.mem_singleton.mp hk']
          exact h2
      cases z : valV kvs (keyS k.2) with
      | some v =>
        refine iteF_ rfl ?_
        exact ⟨_, _, kvs, rfl, hG, sG, dic, by omega, tk kvs (fun _ h => h) (by rw [z]; rfl)⟩
      | none =>
        refine iteT_ rfl ?_
        refine ⟨_, rfl, _, k.2, rfl, hsG, ok, fun n G1 fn s1 hn => ?_⟩
        have hs1 := hsG.kt (KT.same s1)
        refine ⟨_, rfl, _, rfl, a, specD k.2, _, rfl, hs1, spec_shaped _, spec_show ok, len, rfl, d, _, rfl, DPut.k (k := keyS k.2) (s1 _ _ hG) ?_, ?_⟩
        · exact Nat.lt_of_le_of_lt (show kvs.length ≤ 24 by omega) (by decide)
        rw [putK_new z]
        refine ⟨_, _, kvs ++ [(keyS k.2, .ref n)], rfl, upd_same, Same.past (sG.trans s1) hd, ?_, ?_, tk _ (fun k' h => ?_) ?_⟩
        · intro e he
          rcases List.mem_append.mp he with he | he
          · obtain ⟨sp, a, h1, h2, h3⟩ := dic e he
            exact ⟨sp, a, h1, h2, (h3.keep s1).lk (s1 _ _ hG)⟩
          · rw [List.mem_singleton.mp he]
            exact ⟨k.2, n, rfl, ok, hn.lk (s1 _ _ hG)⟩
        · rw [List.length_append]
          exact Nat.succ_le_succ kl
        · rw [valV_put z, h]
          rfl
        · rw [valV_put z, decide_eq_true rfl, Bool.or_true]
    · rintro σ G ⟨w2, w3, kvs, rfl, hG, sG, dic, kl, al⟩
      rw [kvl, List.take_length] at al
      refine ⟨_, rfl, l, rfl, ⟨_, SqL.of (sG _ _ hl)⟩, fun D hD => ?_⟩
      refine lc_list (xs := kv) (fun j H' => (∃ (qs : List V) (nm : List Nm), H' D = some (.lst qs) ∧ Al (PairAt K H') qs nm ∧ Al (NmK K cl dd G) nm (ks.take j)) ∧ Same G H') ⟨⟨[], [], upd_same, trivial, by rw [List.take_zero]; exact trivial⟩, Same.past (Same.refl _) hD⟩ (fun j H' _ e => SqL.of (e.2 _ _ (sG _ _ hl))) (fun j v H' ev e => ?_) (fun H2 e => ?_)
      · obtain ⟨⟨qs, nm, hq0, alq, aln⟩, sm⟩ := e
        obtain ⟨k, ek, dkj⟩ := DpAll.map dk ev
        have ok := oks k (List.mem_of_getElem? ek)
        obtain ⟨q, sv, rfl, hq, hs⟩ := knot_inv dkj
        have jl := (List.getElem?_eq_some_iff.mp ek).1
        have hs1 := hs.kt (KT.same (sG.trans sm))
        obtain ⟨a, rfl, dp1, len⟩ := rp hs1 ok
        obtain ⟨n, en, hn⟩ := dic.get ok (al k (List.mem_of_getElem? ek))
        refine ⟨q, _, rfl, Same.tup (sG.trans sm) hq, rfl, _, _, rfl, _, _, rfl, rfl, rfl, ?_⟩
        refine yes_ite ?_
        refine ⟨_, rfl, _, rfl, _, rfl, a, specD k.2, _, rfl, dp1, spec_shaped _, spec_show ok, len, rfl, d, _, rfl, (by rw [← en]; exact DGet.k (k := keyS k.2) (sm _ _ hG)), (by show 2 ≤ sizeLine; decide), fun t ht => ?_⟩
        have sT := Same.new (o := .tup [V.str k.1, .ref n]) (Same.refl H') ht
        have nDt : D ≠ t := ne_of_none hq0 ht
        have sU : Same G (upd (upd H' t (.tup [V.str k.1, .ref n])) D (.lst (qs ++ [.ref t]))) := Same.past (sm.trans sT) hD
        have ql := alq.len
        have nl := aln.len
        refine ⟨_, sT _ _ hq0, ?_, ⟨_, nm ++ [⟨k.1, n, infS k.2⟩], upd_same, ?_, ?_⟩, sU⟩
        · rw [List.length_take] at nl
          exact Nat.lt_of_lt_of_le (show qs.length < 100 by omega) (by decide)
        · exact Al.snoc (pair_upd (x := ⟨k.1, n, infS k.2⟩) (sT _ _ hq0) ⟨t, rfl, .inl (.inl upd_same)⟩) (alq.imp fun pp y ⟨q, e, h⟩ => pair_upd (sT _ _ hq0) ⟨q, e, Same.tup sT h⟩)
        · rw [List.take_succ, ek]
          exact Al.snoc ⟨rfl, rfl, hn⟩ aln
      · obtain ⟨⟨qs, nm, hq0, alq, aln⟩, sm⟩ := e
        rw [kvl, List.take_length] at aln
        exact kk D nm G H2 sG hD sm ⟨qs, hq0, alq⟩ aln
end
end Sw
namespace Sw
open PySem PySem.Spec PyProof.Rows L2
/-! ### == of nodes, True or False -/
def RN (K : PySem.W.Frag) (cl : Srt → Addr) (dd : Addr) (A : Srt) (a : Addr) (y : V) (b : Bool) (H : Hp) : Prop := ∃ (s t : Spec) (c : Addr), srt s = A ∧ y = .ref c ∧ NodeS K cl dd s a H ∧ NodeS K cl dd t c H ∧ b = decide (s = t)
/-- no sort is another one's -/
def Apart (K : PySem.W.Frag) (cl : Srt → Addr) : Prop := ∀ A B : Srt, PySem.W.kitOne K (.ref (cl A)) (.ref (cl B)) = some (decide (A = B)) ∧ PySem.W.notFirst K (cl A) (.ref (cl B)) = true
theorem Apart.inj {K : PySem.W.Frag} {cl : Srt → Addr} (h : Apart K cl) {A B : Srt} (e : cl A = cl B) : A = B := by
  have h1 := (h A B).1
  rw [← e, (h A A).1] at h1
  by_cases z : A = B
  · exact z
  · rw [decide_eq_true rfl, decide_eq_false z] at h1
    cases h1
def DElB (K : PySem.W.Frag) : EqB := fun x y b H => ((DFlatB x y b H ∨ DSameB x y b H) ∨ DTupB K DFlatB x y b H) ∨ DListB DFlatB x y b H
theorem monB_el {K : PySem.W.Frag} : MonB (DElB K) := MonB.or (MonB.or (MonB.or monB_flat monB_same) (monB_tup monB_flat)) (monB_list monB_flat)
theorem eqGB_el {X : Cx} : EqGB X 1 (DElB X.K) := EqGB.or (EqGB.or (EqGB.or (eqGB_flat.mono (Nat.zero_le _)) (eqGB_same.mono (Nat.zero_le _))) (eqGB_tup monB_flat eqGB_flat refl_flat)) (eqGB_list monB_flat eqGB_flat refl_flat)
theorem rcB_made {X : Cx} : RcGB X 2 (DTupB X.K (DElB X.K)) := rcGB_tup monB_el eqGB_el
theorem fl_int {H : Hp} (i j : Int) : DFlatB (.int i) (.int j) (decide (i = j)) H := ⟨rfl, rfl, by
  show (i == j) = decide (i = j)
  by_cases z : i = j
  · rw [z, decide_eq_true rfl]
    exact beq_self_eq_true _
  · rw [decide_eq_false z]
    exact beq_eq_false_iff_ne.mpr z⟩
theorem fl_nat {H : Hp} (i j : Nat) : DFlatB (natV i) (natV j) (decide (i = j)) H := by
  have h := fl_int (H := H) (i : Int) (j : Int)
  have e : decide ((i : Int) = (j : Int)) = decide (i = j) := decide_eq_decide.mpr ⟨fun z => by omega, fun z => by rw [z]⟩
  rw [e] at h
  exact h
theorem fl_str {H : Hp} (i j : Str) : DFlatB (.str i) (.str j) (decide (i = j)) H := ⟨rfl, rfl, by
  show (i == j) = decide (i = j)
  by_cases z : i = j
  · rw [z, decide_eq_true rfl]
    exact beq_self_eq_true _
  · rw [decide_eq_false z]
    exact beq_eq_false_iff_ne.mpr z⟩
theorem eb_int {K : PySem.W.Frag} {H : Hp} (i j : Int) : DElB K (.int i) (.int j) (decide (i = j)) H := .inl (.inl (.inl (fl_int i j)))
theorem eb_nat {K : PySem.W.Frag} {H : Hp} (i j : Nat) : DElB K (natV i) (natV j) (decide (i = j)) H := .inl (.inl (.inl (fl_nat i j)))
theorem eb_0 {K : PySem.W.Frag} {H : Hp} : DElB K (.int 0) (.int 0) true H := by
  have h := eb_int (K := K) (H := H) 0 0
  rw [decide_eq_true rfl] at h
  exact h
theorem eb_bl {K : PySem.W.Frag} {H : Hp} : DElB K (.bl false) (.bl false) true H := .inl (.inl (.inl ⟨rfl, rfl, rfl⟩))
/-- rows of numbers -/
def natsB (a b : List Nat) : Nat → Bool := fun i => decide (a[i]? = b[i]?)
theorem natsB_prs {H : Hp} (a b : List Nat) : PrsB DFlatB (natsB a b) (a.map natV) (b.map natV) H := fun i x y h1 h2 => by
  rw [List.getElem?_map] at h1 h2
  obtain ⟨m, e1, rfl⟩ := Option.map_eq_some_iff.mp h1
  obtain ⟨n, e2, rfl⟩ := Option.map_eq_some_iff.mp h2
  have : natsB a b i = decide (m = n) := by
    unfold natsB
    rw [e1, e2]
    exact decide_eq_decide.mpr ⟨fun z => Option.some.inj z, fun z => by rw [z]⟩
  rw [this]
  exact fl_nat m n
theorem natsB_all (a b : List Nat) : (allD (natsB a b) (min (a.map natV).length (b.map natV).length) && decide ((a.map natV).length = (b.map natV).length)) = decide (a = b) := by
  rw [List.length_map, List.length_map]
  by_cases z : a = b
  · subst z
    rw [decide_eq_true rfl, decide_eq_true rfl, Bool.and_true]
    exact allD_true fun j _ => decide_eq_true rfl
  · rw [decide_eq_false z]
    by_cases l : a.length = b.length
    · rw [decide_eq_true l, Bool.and_true]
      have : ∃ i, i < a.length ∧ a[i]? ≠ b[i]? := by
        apply Classical.byContradiction
        intro q
        apply z
        apply List.ext_getElem?
        intro i
        by_cases il : i < a.length
        · exact Classical.byContradiction fun w => q ⟨i, il, w⟩
        · rw [List.getElem?_eq_none (by omega), List.getElem?_eq_none (by omega)]
      obtain ⟨i, il, w⟩ := this
      exact allD_false (i := i) (by omega) (decide_eq_false w)
    · rw [decide_eq_false l, Bool.and_false]
theorem and3 {a b c : Prop} [Decidable a] [Decidable b] [Decidable c] {e : Prop} [Decidable e] (h : e ↔ a ∧ b ∧ c) : ([decide a, decide b, decide c].all id) = decide e := by
  simp only [List.all_cons, List.all_nil, id, Bool.and_true]
  rw [← Bool.decide_and, ← Bool.decide_and]
  exact decide_eq_decide.mpr h.symm
/-- what two nodes of one sort are made of -/
theorem made_prsB {K : PySem.W.Frag} {H : Hp} {dd x y : Addr} {s t : Spec} (e : srt s = srt t) (h1 : auxS K H x s) (h2 : auxS K H y t) : ∃ bs : List Bool, (madeS dd x s).length = bs.length ∧ (madeS dd y t).length = bs.length ∧ PrsB (DElB K) (fun i => bs.getD i true) (madeS dd x s) (madeS dd y t) H ∧ bs.all id = decide (s = t) := by
  cases s with
  | gain b l g =>
    cases t with
    | gain b2 l2 g2 =>
      refine ⟨[decide (b = b2), decide (l = l2), decide (g = g2)], rfl, rfl, prsB_cons (eb_int _ _) (prsB_cons (eb_nat _ _) (prsB_cons (eb_nat _ _) prsB_nil)), and3 ?_⟩
      rw [Spec.gain.injEq]
    | _ => cases e
  | mix n =>
    cases t with
    | mix n2 =>
      refine ⟨[decide (n = n2), true, true], rfl, rfl, prsB_cons (eb_nat _ _) (prsB_cons eb_0 (prsB_cons eb_0 prsB_nil)), ?_⟩
      rw [show (true : Bool) = decide True from rfl]
      refine and3 ?_
      rw [Spec.mix.injEq]
      exact ⟨fun z => ⟨z, trivial, trivial⟩, fun z => z.1⟩
    | _ => cases e
  | down n =>
    cases t with
    | down n2 =>
      refine ⟨[decide (n = n2), true, true], rfl, rfl, prsB_cons (eb_nat _ _) (prsB_cons eb_0 (prsB_cons eb_0 prsB_nil)), ?_⟩
      rw [show (true : Bool) = decide True from rfl]
      refine and3 ?_
      rw [Spec.down.injEq]
      exact ⟨fun z => ⟨z, trivial, trivial⟩, fun z => z.1⟩
    | _ => cases e
  | up n =>
    cases t with
    | up n2 =>
      refine ⟨[decide (n = n2), true, true, true], rfl, rfl, prsB_cons (eb_nat _ _) (prsB_cons eb_bl (prsB_cons eb_0 (prsB_cons eb_0 prsB_nil))), ?_⟩
      simp only [List.all_cons, List.all_nil, id, Bool.and_true]
      exact decide_eq_decide.mpr (by rw [Spec.up.injEq])
    | _ => cases e
  | resample u d =>
    cases t with
    | resample u2 d2 =>
      refine ⟨[decide (u = u2), decide (d = d2), true, true, true], rfl, rfl, prsB_cons (eb_nat _ _) (prsB_cons (eb_nat _ _) (prsB_cons (.inr ⟨x, y, [.int 1, .int 2], [.int 1, .int 2], fun _ => true, rfl, rfl, h1, h2, fun _ i u v e1 e2 => ?_, ?_⟩) (prsB_cons eb_0 (prsB_cons eb_0 prsB_nil)))), ?_⟩
      · rw [e1] at e2
        obtain rfl := Option.some.inj e2
        have f : flatV u = true := by
          rcases (List.mem_cons.mp (List.mem_of_getElem? e1)) with rfl | h
          · rfl
          · rw [List.mem_singleton.mp h]
            rfl
        exact ⟨f, f, eqV_self f⟩
      · rfl
      · simp only [List.all_cons, List.all_nil, id, Bool.and_true]
        rw [← Bool.decide_and]
        exact decide_eq_decide.mpr (by rw [Spec.resample.injEq])
    | _ => cases e
  | own ts g =>
    cases t with
    | own ts2 g2 =>
      refine ⟨[true, decide (ts = ts2), decide (g = g2), true, true, true], rfl, rfl, prsB_cons (.inl (.inl (.inr ⟨rfl, rfl, _, rfl⟩))) (prsB_cons (.inl (.inr ⟨x, y, _, _, natsB ts ts2, rfl, rfl, h1, h2, natsB_prs ts ts2, (natsB_all ts ts2).symm⟩)) (prsB_cons (eb_nat _ _) (prsB_cons eb_0 (prsB_cons eb_0 (prsB_cons eb_0 prsB_nil))))), ?_⟩
      simp only [List.all_cons, List.all_nil, id, Bool.and_true, Bool.true_and]
      rw [← Bool.decide_and]
      exact decide_eq_decide.mpr (by rw [Spec.own.injEq])
    | _ => cases e
  | times =>
    cases t with
    | times => exact ⟨[true, true], rfl, rfl, prsB_cons eb_0 (prsB_cons eb_0 prsB_nil), rfl⟩
    | _ => cases e
  | choose =>
    cases t with
    | choose => exact ⟨[true, true], rfl, rfl, prsB_cons eb_0 (prsB_cons eb_0 prsB_nil), rfl⟩
    | _ => cases e
  | outlet =>
    cases t with
    | outlet => exact ⟨[true, true], rfl, rfl, prsB_cons eb_0 (prsB_cons eb_0 prsB_nil), rfl⟩
    | _ => cases e
  | inlet =>
    cases t with
    | inlet => exact ⟨[true, true], rfl, rfl, prsB_cons eb_0 (prsB_cons eb_0 prsB_nil), rfl⟩
    | _ => cases e
section
variable {P : Program} {w : World} {K : PySem.W.Frag} {mg : Str → Option Value} {base : Heap} {f f1 f2 f3 f4 f5 f6 f7 f8 f9 C CN CO CI CW dd : Addr} {cl : Srt → Addr} {fd fd1 fd2 fd3 fd4 fd5 fd6 fd7 fd8 fd9 : FuncData}

theorem ok_gainEqB (F : FnM K "__eq__" "Gain.__eq__" sGainEq f fd) (c : ClsS K cl CN CO CI) (ap : Apart K cl) (gC : mg "Gain" = some (.ref (cl .gain))) (gIs : mg "isinstance" = none) : FnOk P w K mg base CX0 3 f fd ["self", "other"] (spEqB (RN K cl dd .gain)) := by
  refine F.ok scGainEq (fun vs H Q E h => ?_) (fun cdv A ou s H vs Q E hr h => ?_)
  · obtain ⟨a, y, b, rfl, _⟩ := h
    rfl
  · obtain ⟨a, _, _, rfl, ⟨s, t, c1, e, rfl, ⟨dx, fs, tm, x, ha, nf, htm, au⟩, ⟨dy, gs, tm', y, hb, nf', htm', au'⟩, rfl⟩, kk⟩ := h
    have hr2 : Room 2 _ := hr
    have T := c.nc .gain
    have T2 := c.nc (srt t)
    have i := c.isS (srt t)
    rw [e] at ha
    refine ⟨_, PSs.nox (pss_one (ps_ret (pe_and (pe_callB call_isi (by rfl) gIs boot_isinstance (pa_cons (pv 1) (pa_cons (pe_glob (v := .ref (cl .gain)) rfl gC rfl) pa_nil))) (pe_one (pe_cmpR (op_eqB rcB_made hr2) (pe_fld (pv 0) rfl) (pe_fld (pv 1) rfl) (nomark _)))))), ?_⟩
    by_cases z : srt t = .gain
    · have k1 := (ap (srt t) .gain).1
      rw [decide_eq_true z] at k1
      refine ⟨_, rfl, _, _, _, _, true, rfl, ClsV.own _, i.ty T2.cl hb, k1, _, rfl, iteT ?_⟩
      obtain ⟨bs, l1, l2, prs, all⟩ := made_prsB (dd := dd) (e.trans z.symm) au au'
      refine ⟨_, rfl, a, _, dx, _, _, rfl, ha, T.cl, T.nM, nf.made, _, rfl, c1, _, dy, _, _, rfl, hb, T2.cl, T2.nM, nf'.made, _, ⟨tm, tm', _, _, _, rfl, rfl, htm, htm', prs, rfl⟩, fun H' ex => ?_⟩
      rw [l1, l2, decide_eq_true rfl, Bool.and_true, Nat.min_self, allD_list, all]
      exact kk H' ex
    · have k1 := (ap (srt t) .gain).1
      rw [decide_eq_false z] at k1
      refine ⟨_, rfl, _, _, _, _, false, rfl, ClsV.own _, i.ty T2.cl hb, k1, _, rfl, iteF ?_⟩
      have := kk H Ext.rfl'
      rw [decide_eq_false fun q => z (by rw [← q]; exact e)] at this
      exact this

theorem ok_mixEqB (F : FnM K "__eq__" "Mix.__eq__" sMixEq f fd) (c : ClsS K cl CN CO CI) (ap : Apart K cl) (gC : mg "Mix" = some (.ref (cl .mix))) (gIs : mg "isinstance" = none) : FnOk P w K mg base CX0 3 f fd ["self", "other"] (spEqB (RN K cl dd .mix)) := by
  refine F.ok scMixEq (fun vs H Q E h => ?_) (fun cdv A ou s H vs Q E hr h => ?_)
  · obtain ⟨a, y, b, rfl, _⟩ := h
    rfl
  · obtain ⟨a, _, _, rfl, ⟨s, t, c1, e, rfl, ⟨dx, fs, tm, x, ha, nf, htm, au⟩, ⟨dy, gs, tm', y, hb, nf', htm', au'⟩, rfl⟩, kk⟩ := h
    have hr2 : Room 2 _ := hr
    have T := c.nc .mix
    have T2 := c.nc (srt t)
    have i := c.isS (srt t)
    rw [e] at ha
    refine ⟨_, PSs.nox (pss_one (ps_ret (pe_and (pe_callB call_isi (by rfl) gIs boot_isinstance (pa_cons (pv 1) (pa_cons (pe_glob (v := .ref (cl .mix)) rfl gC rfl) pa_nil))) (pe_one (pe_cmpR (op_eqB rcB_made hr2) (pe_fld (pv 0) rfl) (pe_fld (pv 1) rfl) (nomark _)))))), ?_⟩
    by_cases z : srt t = .mix
    · have k1 := (ap (srt t) .mix).1
      rw [decide_eq_true z] at k1
      refine ⟨_, rfl, _, _, _, _, true, rfl, ClsV.own _, i.ty T2.cl hb, k1, _, rfl, iteT ?_⟩
      obtain ⟨bs, l1, l2, prs, all⟩ := made_prsB (dd := dd) (e.trans z.symm) au au'
      refine ⟨_, rfl, a, _, dx, _, _, rfl, ha, T.cl, T.nM, nf.made, _, rfl, c1, _, dy, _, _, rfl, hb, T2.cl, T2.nM, nf'.made, _, ⟨tm, tm', _, _, _, rfl, rfl, htm, htm', prs, rfl⟩, fun H' ex => ?_⟩
      rw [l1, l2, decide_eq_true rfl, Bool.and_true, Nat.min_self, allD_list, all]
      exact kk H' ex
    · have k1 := (ap (srt t) .mix).1
      rw [decide_eq_false z] at k1
      refine ⟨_, rfl, _, _, _, _, false, rfl, ClsV.own _, i.ty T2.cl hb, k1, _, rfl, iteF ?_⟩
      have := kk H Ext.rfl'
      rw [decide_eq_false fun q => z (by rw [← q]; exact e)] at this
      exact this

theorem ok_timesEqB (F : FnM K "__eq__" "Times.__eq__" sTimesEq f fd) (c : ClsS K cl CN CO CI) (ap : Apart K cl) (gC : mg "Times" = some (.ref (cl .times))) (gIs : mg "isinstance" = none) : FnOk P w K mg base CX0 3 f fd ["self", "other"] (spEqB (RN K cl dd .times)) := by
  refine F.ok scTimesEq (fun vs H Q E h => ?_) (fun cdv A ou s H vs Q E hr h => ?_)
  · obtain ⟨a, y, b, rfl, _⟩ := h
    rfl
  · obtain ⟨a, _, _, rfl, ⟨s, t, c1, e, rfl, ⟨dx, fs, tm, x, ha, nf, htm, au⟩, ⟨dy, gs, tm', y, hb, nf', htm', au'⟩, rfl⟩, kk⟩ := h
    have hr2 : Room 2 _ := hr
    have T := c.nc .times
    have T2 := c.nc (srt t)
    have i := c.isS (srt t)
    rw [e] at ha
    refine ⟨_, PSs.nox (pss_one (ps_ret (pe_and (pe_callB call_isi (by rfl) gIs boot_isinstance (pa_cons (pv 1) (pa_cons (pe_glob (v := .ref (cl .times)) rfl gC rfl) pa_nil))) (pe_one (pe_cmpR (op_eqB rcB_made hr2) (pe_fld (pv 0) rfl) (pe_fld (pv 1) rfl) (nomark _)))))), ?_⟩
    by_cases z : srt t = .times
    · have k1 := (ap (srt t) .times).1
      rw [decide_eq_true z] at k1
      refine ⟨_, rfl, _, _, _, _, true, rfl, ClsV.own _, i.ty T2.cl hb, k1, _, rfl, iteT ?_⟩
      obtain ⟨bs, l1, l2, prs, all⟩ := made_prsB (dd := dd) (e.trans z.symm) au au'
      refine ⟨_, rfl, a, _, dx, _, _, rfl, ha, T.cl, T.nM, nf.made, _, rfl, c1, _, dy, _, _, rfl, hb, T2.cl, T2.nM, nf'.made, _, ⟨tm, tm', _, _, _, rfl, rfl, htm, htm', prs, rfl⟩, fun H' ex => ?_⟩
      rw [l1, l2, decide_eq_true rfl, Bool.and_true, Nat.min_self, allD_list, all]
      exact kk H' ex
    · have k1 := (ap (srt t) .times).1
      rw [decide_eq_false z] at k1
      refine ⟨_, rfl, _, _, _, _, false, rfl, ClsV.own _, i.ty T2.cl hb, k1, _, rfl, iteF ?_⟩
      have := kk H Ext.rfl'
      rw [decide_eq_false fun q => z (by rw [← q]; exact e)] at this
      exact this

theorem ok_chooseEqB (F : FnM K "__eq__" "Choose.__eq__" sChooseEq f fd) (c : ClsS K cl CN CO CI) (ap : Apart K cl) (gC : mg "Choose" = some (.ref (cl .choose))) (gIs : mg "isinstance" = none) : FnOk P w K mg base CX0 3 f fd ["self", "other"] (spEqB (RN K cl dd .choose)) := by
  refine F.ok scChooseEq (fun vs H Q E h => ?_) (fun cdv A ou s H vs Q E hr h => ?_)
  · obtain ⟨a, y, b, rfl, _⟩ := h
    rfl
  · obtain ⟨a, _, _, rfl, ⟨s, t, c1, e, rfl, ⟨dx, fs, tm, x, ha, nf, htm, au⟩, ⟨dy, gs, tm', y, hb, nf', htm', au'⟩, rfl⟩, kk⟩ := h
    have hr2 : Room 2 _ := hr
    have T := c.nc .choose
    have T2 := c.nc (srt t)
    have i := c.isS (srt t)
    rw [e] at ha
    refine ⟨_, PSs.nox (pss_one (ps_ret (pe_and (pe_callB call_isi (by rfl) gIs boot_isinstance (pa_cons (pv 1) (pa_cons (pe_glob (v := .ref (cl .choose)) rfl gC rfl) pa_nil))) (pe_one (pe_cmpR (op_eqB rcB_made hr2) (pe_fld (pv 0) rfl) (pe_fld (pv 1) rfl) (nomark _)))))), ?_⟩
    by_cases z : srt t = .choose
    · have k1 := (ap (srt t) .choose).1
      rw [decide_eq_true z] at k1
      refine ⟨_, rfl, _, _, _, _, true, rfl, ClsV.own _, i.ty T2.cl hb, k1, _, rfl, iteT ?_⟩
      obtain ⟨bs, l1, l2, prs, all⟩ := made_prsB (dd := dd) (e.trans z.symm) au au'
      refine ⟨_, rfl, a, _, dx, _, _, rfl, ha, T.cl, T.nM, nf.made, _, rfl, c1, _, dy, _, _, rfl, hb, T2.cl, T2.nM, nf'.made, _, ⟨tm, tm', _, _, _, rfl, rfl, htm, htm', prs, rfl⟩, fun H' ex => ?_⟩
      rw [l1, l2, decide_eq_true rfl, Bool.and_true, Nat.min_self, allD_list, all]
      exact kk H' ex
    · have k1 := (ap (srt t) .choose).1
      rw [decide_eq_false z] at k1
      refine ⟨_, rfl, _, _, _, _, false, rfl, ClsV.own _, i.ty T2.cl hb, k1, _, rfl, iteF ?_⟩
      have := kk H Ext.rfl'
      rw [decide_eq_false fun q => z (by rw [← q]; exact e)] at this
      exact this

theorem ok_upEqB (F : FnM K "__eq__" "Up.__eq__" sUpEq f fd) (c : ClsS K cl CN CO CI) (ap : Apart K cl) (gC : mg "Up" = some (.ref (cl .up))) (gIs : mg "isinstance" = none) : FnOk P w K mg base CX0 3 f fd ["self", "other"] (spEqB (RN K cl dd .up)) := by
  refine F.ok scUpEq (fun vs H Q E h => ?_) (fun cdv A ou s H vs Q E hr h => ?_)
  · obtain ⟨a, y, b, rfl, _⟩ := h
    rfl
  · obtain ⟨a, _, _, rfl, ⟨s, t, c1, e, rfl, ⟨dx, fs, tm, x, ha, nf, htm, au⟩, ⟨dy, gs, tm', y, hb, nf', htm', au'⟩, rfl⟩, kk⟩ := h
    have hr2 : Room 2 _ := hr
    have T := c.nc .up
    have T2 := c.nc (srt t)
    have i := c.isS (srt t)
    rw [e] at ha
    refine ⟨_, PSs.nox (pss_one (ps_ret (pe_and (pe_callB call_isi (by rfl) gIs boot_isinstance (pa_cons (pv 1) (pa_cons (pe_glob (v := .ref (cl .up)) rfl gC rfl) pa_nil))) (pe_one (pe_cmpR (op_eqB rcB_made hr2) (pe_fld (pv 0) rfl) (pe_fld (pv 1) rfl) (nomark _)))))), ?_⟩
    by_cases z : srt t = .up
    · have k1 := (ap (srt t) .up).1
      rw [decide_eq_true z] at k1
      refine ⟨_, rfl, _, _, _, _, true, rfl, ClsV.own _, i.ty T2.cl hb, k1, _, rfl, iteT ?_⟩
      obtain ⟨bs, l1, l2, prs, all⟩ := made_prsB (dd := dd) (e.trans z.symm) au au'
      refine ⟨_, rfl, a, _, dx, _, _, rfl, ha, T.cl, T.nM, nf.made, _, rfl, c1, _, dy, _, _, rfl, hb, T2.cl, T2.nM, nf'.made, _, ⟨tm, tm', _, _, _, rfl, rfl, htm, htm', prs, rfl⟩, fun H' ex => ?_⟩
      rw [l1, l2, decide_eq_true rfl, Bool.and_true, Nat.min_self, allD_list, all]
      exact kk H' ex
    · have k1 := (ap (srt t) .up).1
      rw [decide_eq_false z] at k1
      refine ⟨_, rfl, _, _, _, _, false, rfl, ClsV.own _, i.ty T2.cl hb, k1, _, rfl, iteF ?_⟩
      have := kk H Ext.rfl'
      rw [decide_eq_false fun q => z (by rw [← q]; exact e)] at this
      exact this

theorem ok_downEqB (F : FnM K "__eq__" "Down.__eq__" sDownEq f fd) (c : ClsS K cl CN CO CI) (ap : Apart K cl) (gC : mg "Down" = some (.ref (cl .down))) (gIs : mg "isinstance" = none) : FnOk P w K mg base CX0 3 f fd ["self", "other"] (spEqB (RN K cl dd .down)) := by
  refine F.ok scDownEq (fun vs H Q E h => ?_) (fun cdv A ou s H vs Q E hr h => ?_)
  · obtain ⟨a, y, b, rfl, _⟩ := h
    rfl
  · obtain ⟨a, _, _, rfl, ⟨s, t, c1, e, rfl, ⟨dx, fs, tm, x, ha, nf, htm, au⟩, ⟨dy, gs, tm', y, hb, nf', htm', au'⟩, rfl⟩, kk⟩ := h
    have hr2 : Room 2 _ := hr
    have T := c.nc .down
    have T2 := c.nc (srt t)
    have i := c.isS (srt t)
    rw [e] at ha
    refine ⟨_, PSs.nox (pss_one (ps_ret (pe_and (pe_callB call_isi (by rfl) gIs boot_isinstance (pa_cons (pv 1) (pa_cons (pe_glob (v := .ref (cl .down)) rfl gC rfl) pa_nil))) (pe_one (pe_cmpR (op_eqB rcB_made hr2) (pe_fld (pv 0) rfl) (pe_fld (pv 1) rfl) (nomark _)))))), ?_⟩
    by_cases z : srt t = .down
    · have k1 := (ap (srt t) .down).1
      rw [decide_eq_true z] at k1
      refine ⟨_, rfl, _, _, _, _, true, rfl, ClsV.own _, i.ty T2.cl hb, k1, _, rfl, iteT ?_⟩
      obtain ⟨bs, l1, l2, prs, all⟩ := made_prsB (dd := dd) (e.trans z.symm) au au'
      refine ⟨_, rfl, a, _, dx, _, _, rfl, ha, T.cl, T.nM, nf.made, _, rfl, c1, _, dy, _, _, rfl, hb, T2.cl, T2.nM, nf'.made, _, ⟨tm, tm', _, _, _, rfl, rfl, htm, htm', prs, rfl⟩, fun H' ex => ?_⟩
      rw [l1, l2, decide_eq_true rfl, Bool.and_true, Nat.min_self, allD_list, all]
      exact kk H' ex
    · have k1 := (ap (srt t) .down).1
      rw [decide_eq_false z] at k1
      refine ⟨_, rfl, _, _, _, _, false, rfl, ClsV.own _, i.ty T2.cl hb, k1, _, rfl, iteF ?_⟩
      have := kk H Ext.rfl'
      rw [decide_eq_false fun q => z (by rw [← q]; exact e)] at this
      exact this

theorem ok_resampleEqB (F : FnM K "__eq__" "Resample.__eq__" sResampleEq f fd) (c : ClsS K cl CN CO CI) (ap : Apart K cl) (gC : mg "Resample" = some (.ref (cl .resample))) (gIs : mg "isinstance" = none) : FnOk P w K mg base CX0 3 f fd ["self", "other"] (spEqB (RN K cl dd .resample)) := by
  refine F.ok scResampleEq (fun vs H Q E h => ?_) (fun cdv A ou s H vs Q E hr h => ?_)
  · obtain ⟨a, y, b, rfl, _⟩ := h
    rfl
  · obtain ⟨a, _, _, rfl, ⟨s, t, c1, e, rfl, ⟨dx, fs, tm, x, ha, nf, htm, au⟩, ⟨dy, gs, tm', y, hb, nf', htm', au'⟩, rfl⟩, kk⟩ := h
    have hr2 : Room 2 _ := hr
    have T := c.nc .resample
    have T2 := c.nc (srt t)
    have i := c.isS (srt t)
    rw [e] at ha
    refine ⟨_, PSs.nox (pss_one (ps_ret (pe_and (pe_callB call_isi (by rfl) gIs boot_isinstance (pa_cons (pv 1) (pa_cons (pe_glob (v := .ref (cl .resample)) rfl gC rfl) pa_nil))) (pe_one (pe_cmpR (op_eqB rcB_made hr2) (pe_fld (pv 0) rfl) (pe_fld (pv 1) rfl) (nomark _)))))), ?_⟩
    by_cases z : srt t = .resample
    · have k1 := (ap (srt t) .resample).1
      rw [decide_eq_true z] at k1
      refine ⟨_, rfl, _, _, _, _, true, rfl, ClsV.own _, i.ty T2.cl hb, k1, _, rfl, iteT ?_⟩
      obtain ⟨bs, l1, l2, prs, all⟩ := made_prsB (dd := dd) (e.trans z.symm) au au'
      refine ⟨_, rfl, a, _, dx, _, _, rfl, ha, T.cl, T.nM, nf.made, _, rfl, c1, _, dy, _, _, rfl, hb, T2.cl, T2.nM, nf'.made, _, ⟨tm, tm', _, _, _, rfl, rfl, htm, htm', prs, rfl⟩, fun H' ex => ?_⟩
      rw [l1, l2, decide_eq_true rfl, Bool.and_true, Nat.min_self, allD_list, all]
      exact kk H' ex
    · have k1 := (ap (srt t) .resample).1
      rw [decide_eq_false z] at k1
      refine ⟨_, rfl, _, _, _, _, false, rfl, ClsV.own _, i.ty T2.cl hb, k1, _, rfl, iteF ?_⟩
      have := kk H Ext.rfl'
      rw [decide_eq_false fun q => z (by rw [← q]; exact e)] at this
      exact this

theorem ok_ownEqB (F : FnM K "__eq__" "Own.__eq__" sOwnEq f fd) (c : ClsS K cl CN CO CI) (ap : Apart K cl) (gC : mg "Own" = some (.ref (cl .own))) (gIs : mg "isinstance" = none) : FnOk P w K mg base CX0 3 f fd ["self", "other"] (spEqB (RN K cl dd .own)) := by
  refine F.ok scOwnEq (fun vs H Q E h => ?_) (fun cdv A ou s H vs Q E hr h => ?_)
  · obtain ⟨a, y, b, rfl, _⟩ := h
    rfl
  · obtain ⟨a, _, _, rfl, ⟨s, t, c1, e, rfl, ⟨dx, fs, tm, x, ha, nf, htm, au⟩, ⟨dy, gs, tm', y, hb, nf', htm', au'⟩, rfl⟩, kk⟩ := h
    have hr2 : Room 2 _ := hr
    have T := c.nc .own
    have T2 := c.nc (srt t)
    have i := c.isS (srt t)
    rw [e] at ha
    refine ⟨_, PSs.nox (pss_one (ps_ret (pe_and (pe_callB call_isi (by rfl) gIs boot_isinstance (pa_cons (pv 1) (pa_cons (pe_glob (v := .ref (cl .own)) rfl gC rfl) pa_nil))) (pe_one (pe_cmpR (op_eqB rcB_made hr2) (pe_fld (pv 0) rfl) (pe_fld (pv 1) rfl) (nomark _)))))), ?_⟩
    by_cases z : srt t = .own
    · have k1 := (ap (srt t) .own).1
      rw [decide_eq_true z] at k1
      refine ⟨_, rfl, _, _, _, _, true, rfl, ClsV.own _, i.ty T2.cl hb, k1, _, rfl, iteT ?_⟩
      obtain ⟨bs, l1, l2, prs, all⟩ := made_prsB (dd := dd) (e.trans z.symm) au au'
      refine ⟨_, rfl, a, _, dx, _, _, rfl, ha, T.cl, T.nM, nf.made, _, rfl, c1, _, dy, _, _, rfl, hb, T2.cl, T2.nM, nf'.made, _, ⟨tm, tm', _, _, _, rfl, rfl, htm, htm', prs, rfl⟩, fun H' ex => ?_⟩
      rw [l1, l2, decide_eq_true rfl, Bool.and_true, Nat.min_self, allD_list, all]
      exact kk H' ex
    · have k1 := (ap (srt t) .own).1
      rw [decide_eq_false z] at k1
      refine ⟨_, rfl, _, _, _, _, false, rfl, ClsV.own _, i.ty T2.cl hb, k1, _, rfl, iteF ?_⟩
      have := kk H Ext.rfl'
      rw [decide_eq_false fun q => z (by rw [← q]; exact e)] at this
      exact this

theorem ok_outletEqB (F : FnM K "__eq__" "Outlet.__eq__" sOutletEq f fd) (c : ClsS K cl CN CO CI) (ap : Apart K cl) (gC : mg "Outlet" = some (.ref (cl .outlet))) (gIs : mg "isinstance" = none) : FnOk P w K mg base CX0 3 f fd ["self", "other"] (spEqB (RN K cl dd .outlet)) := by
  refine F.ok scOutletEq (fun vs H Q E h => ?_) (fun cdv A ou s H vs Q E hr h => ?_)
  · obtain ⟨a, y, b, rfl, _⟩ := h
    rfl
  · obtain ⟨a, _, _, rfl, ⟨s, t, c1, e, rfl, ⟨dx, fs, tm, x, ha, nf, htm, au⟩, ⟨dy, gs, tm', y, hb, nf', htm', au'⟩, rfl⟩, kk⟩ := h
    have hr2 : Room 2 _ := hr
    have T := c.nc .outlet
    have T2 := c.nc (srt t)
    have i := c.isS (srt t)
    rw [e] at ha
    refine ⟨_, PSs.nox (pss_one (ps_ret (pe_and (pe_callB call_isi (by rfl) gIs boot_isinstance (pa_cons (pv 1) (pa_cons (pe_glob (v := .ref (cl .outlet)) rfl gC rfl) pa_nil))) (pe_one (pe_cmpR (op_eqB rcB_made hr2) (pe_fld (pv 0) rfl) (pe_fld (pv 1) rfl) (nomark _)))))), ?_⟩
    by_cases z : srt t = .outlet
    · have k1 := (ap (srt t) .outlet).1
      rw [decide_eq_true z] at k1
      refine ⟨_, rfl, _, _, _, _, true, rfl, ClsV.own _, i.ty T2.cl hb, k1, _, rfl, iteT ?_⟩
      obtain ⟨bs, l1, l2, prs, all⟩ := made_prsB (dd := dd) (e.trans z.symm) au au'
      refine ⟨_, rfl, a, _, dx, _, _, rfl, ha, T.cl, T.nM, nf.made, _, rfl, c1, _, dy, _, _, rfl, hb, T2.cl, T2.nM, nf'.made, _, ⟨tm, tm', _, _, _, rfl, rfl, htm, htm', prs, rfl⟩, fun H' ex => ?_⟩
      rw [l1, l2, decide_eq_true rfl, Bool.and_true, Nat.min_self, allD_list, all]
      exact kk H' ex
    · have k1 := (ap (srt t) .outlet).1
      rw [decide_eq_false z] at k1
      refine ⟨_, rfl, _, _, _, _, false, rfl, ClsV.own _, i.ty T2.cl hb, k1, _, rfl, iteF ?_⟩
      have := kk H Ext.rfl'
      rw [decide_eq_false fun q => z (by rw [← q]; exact e)] at this
      exact this

theorem ok_inletEqB (F : FnM K "__eq__" "Inlet.__eq__" sInletEq f fd) (c : ClsS K cl CN CO CI) (ap : Apart K cl) (gC : mg "Inlet" = some (.ref (cl .inlet))) (gIs : mg "isinstance" = none) : FnOk P w K mg base CX0 3 f fd ["self", "other"] (spEqB (RN K cl dd .inlet)) := by
  refine F.ok scInletEq (fun vs H Q E h => ?_) (fun cdv A ou s H vs Q E hr h => ?_)
  · obtain ⟨a, y, b, rfl, _⟩ := h
    rfl
  · obtain ⟨a, _, _, rfl, ⟨s, t, c1, e, rfl, ⟨dx, fs, tm, x, ha, nf, htm, au⟩, ⟨dy, gs, tm', y, hb, nf', htm', au'⟩, rfl⟩, kk⟩ := h
    have hr2 : Room 2 _ := hr
    have T := c.nc .inlet
    have T2 := c.nc (srt t)
    have i := c.isS (srt t)
    rw [e] at ha
    refine ⟨_, PSs.nox (pss_one (ps_ret (pe_and (pe_callB call_isi (by rfl) gIs boot_isinstance (pa_cons (pv 1) (pa_cons (pe_glob (v := .ref (cl .inlet)) rfl gC rfl) pa_nil))) (pe_one (pe_cmpR (op_eqB rcB_made hr2) (pe_fld (pv 0) rfl) (pe_fld (pv 1) rfl) (nomark _)))))), ?_⟩
    by_cases z : srt t = .inlet
    · have k1 := (ap (srt t) .inlet).1
      rw [decide_eq_true z] at k1
      refine ⟨_, rfl, _, _, _, _, true, rfl, ClsV.own _, i.ty T2.cl hb, k1, _, rfl, iteT ?_⟩
      obtain ⟨bs, l1, l2, prs, all⟩ := made_prsB (dd := dd) (e.trans z.symm) au au'
      refine ⟨_, rfl, a, _, dx, _, _, rfl, ha, T.cl, T.nM, nf.made, _, rfl, c1, _, dy, _, _, rfl, hb, T2.cl, T2.nM, nf'.made, _, ⟨tm, tm', _, _, _, rfl, rfl, htm, htm', prs, rfl⟩, fun H' ex => ?_⟩
      rw [l1, l2, decide_eq_true rfl, Bool.and_true, Nat.min_self, allD_list, all]
      exact kk H' ex
    · have k1 := (ap (srt t) .inlet).1
      rw [decide_eq_false z] at k1
      refine ⟨_, rfl, _, _, _, _, false, rfl, ClsV.own _, i.ty T2.cl hb, k1, _, rfl, iteF ?_⟩
      have := kk H Ext.rfl'
      rw [decide_eq_false fun q => z (by rw [← q]; exact e)] at this
      exact this
end
end Sw
namespace Sw
open PySem PySem.Spec PyProof.Rows L2
theorem wires_dp {K : PySem.W.Frag} {H : Hp} : ∀ {ps : List V} {ws : List Wr}, Al (WireAt K H) ps ws → DpAll K H ps (ws.map cordD)
  | [], [], _ => .nil
  | p :: ps, w :: ws, h => by
    obtain ⟨q, rfl, hq⟩ := h.1
    exact .cons (cord_mk hq) (wires_dp h.2)
  | [], _ :: _, h => h.elim
  | _ :: _, [], h => h.elim
theorem dp_wires {K : PySem.W.Frag} {H : Hp} : ∀ {ps : List V} {ws : List Wr}, DpAll K H ps (ws.map cordD) → Al (WireAt K H) ps ws
  | ps, [], h => by rw [dpAll_nil h]; exact trivial
  | ps, w :: ws, h => by
    obtain ⟨v, r, rfl, h1, h2⟩ := dpAll_cons h
    obtain ⟨q, rfl, hq⟩ := cord_inv h1
    exact ⟨⟨q, rfl, hq⟩, dp_wires h2⟩
theorem nm_shown {x : Str} (h : NmOk x) : (PyData.shown (.str x)).length ≤ 100 := by
  rw [PyData.shown]
  have l := h.2.1
  have := StrLaws.reprText_len x (fun c hc => by
    have : ∀ c ∈ letters.cps.toList, decide (c < 16 ^ 8) = true := by decide +kernel
    exact of_decide_eq_true (this c (h.2.2 c hc)))
  omega
theorem nat_shown {n : Nat} (h : n ≤ 9999) : (PyData.shown (natD n)).length ≤ 100 := by
  unfold natD
  exact Nat.le_trans (PyData.shown_int_le (by omega)) (by decide)
theorem strs_shown {ts : List Str} (h : ∀ t ∈ ts, NmOk t) (l : ts.length ≤ 48) : (strsD ts).shown.length ≤ 20000 := by
  unfold strsD
  refine Nat.le_trans (shown_list (B := 100) fun d hd => ?_) ?_
  · obtain ⟨t, ht, rfl⟩ := List.mem_map.mp hd
    exact nm_shown (h t ht)
  · rw [List.length_map]
    omega
theorem cord_shown {c : Wr} (h : NmOk c.src) (h' : NmOk c.goal) (p : c.place ≤ 9999) (d : c.delay ≤ 9999) : (cordD c).shown.length ≤ 500 := by
  unfold cordD
  refine Nat.le_trans (shown_tuple (B := 100) fun z hz => ?_) (by show (100 + 2) * 4 + 3 ≤ 500; decide)
  simp only [List.mem_cons, List.not_mem_nil, or_false] at hz
  rcases hz with rfl | rfl | rfl | rfl
  · exact nm_shown h
  · exact nm_shown h'
  · exact nat_shown p
  · exact nat_shown d
structure CordsOk (ws : List Wr) : Prop where
  few : ws.length ≤ 48
  nm : ∀ c ∈ ws, NmOk c.src ∧ NmOk c.goal
  num : ∀ c ∈ ws, c.place ≤ 9999 ∧ c.delay ≤ 9999
theorem cords_shown {ws : List Wr} (h : CordsOk ws) : (PyData.shown (.list (ws.map cordD))).length ≤ 30000 := by
  have few := h.few
  refine Nat.le_trans (shown_list (B := 500) fun d hd => ?_) ?_
  · obtain ⟨c, hc, rfl⟩ := List.mem_map.mp hd
    exact cord_shown (h.nm c hc).1 (h.nm c hc).2 (h.num c hc).1 (h.num c hc).2
  · rw [List.length_map]
    omega
theorem showAll_strs : ∀ ts : List Str, PyData.showableAll (ts.map PyData.str) = true
  | [] => by rw [List.map_nil, PyData.showableAll]
  | t :: r => by rw [List.map_cons, PyData.showableAll, showAll_strs r, PyData.showable]; rfl
theorem showAll_cords {ws : List Wr} (h : ∀ c ∈ ws, c.place ≤ 9999 ∧ c.delay ≤ 9999) : PyData.showableAll (ws.map cordD) = true := by
  induction ws with
  | nil => rw [List.map_nil, PyData.showableAll]
  | cons c r ih =>
    obtain ⟨h1, h2⟩ := h c List.mem_cons_self
    have lg : ∀ n : Nat, n ≤ 9999 → decide ((n : Int).natAbs.log2 < 1920) = true := fun n hn => decide_eq_true (by
      rw [Int.natAbs_natCast]
      refine Nat.lt_of_le_of_lt (show n.log2 ≤ 13 from ?_) (by decide)
      by_cases z : n = 0
      · rw [z]
        decide
      · exact Nat.le_of_lt_succ ((Nat.log2_lt z).mpr (by omega)))
    rw [List.map_cons, PyData.showableAll, ih fun c hc => h c (List.mem_cons_of_mem _ hc)]
    unfold cordD natD
    simp only [PyData.showable, PyData.showableAll]
    rw [lg _ h1, lg _ h2]
    rfl
theorem layAll_cords {ws : List Wr} (h : ∀ c ∈ ws, NmOk c.src ∧ NmOk c.goal) : PyData.canLayAll0 (ws.map cordD) = true ∧ PyData.depthAll (ws.map cordD) ≤ 3 := by
  induction ws with
  | nil => exact ⟨rfl, by rw [List.map_nil, PyData.depthAll]; decide⟩
  | cons c r ih =>
    obtain ⟨i1, i2⟩ := ih fun c hc => h c (List.mem_cons_of_mem _ hc)
    obtain ⟨c1, c2⟩ := cord_lay (h c List.mem_cons_self).1 (h c List.mem_cons_self).2
    rw [List.map_cons, PyData.canLayAll0, PyData.depthAll, i1, c1]
    exact ⟨rfl, by omega⟩
theorem Web.cordsOk {ks : List Knot} {cs : List Wr} (h : Web ks cs) (few : cs.length ≤ 48) : CordsOk cs := by
  refine ⟨few, fun c hc => ?_, fun c hc => ⟨?_, h.b.del c hc⟩⟩
  · obtain ⟨k, hk, e, _⟩ := h.b.src c hc
    obtain ⟨k', hk', e', _⟩ := h.b.goal c hc
    exact ⟨e ▸ h.b.nm k hk, e' ▸ h.b.nm k' hk'⟩
  · obtain ⟨k, hk, e, p⟩ := h.b.goal c hc
    have := tks_len (h.b.sp k hk)
    omega
theorem cords_eqv {ws : List Wr} (h : ∀ c ∈ ws, NmOk c.src ∧ NmOk c.goal) : SeqAt.shaped (.list (ws.map cordD)) = true := by
  obtain ⟨w1, w2⟩ := layAll_cords h
  unfold SeqAt.shaped
  rw [PyData.canLay0, PyData.depth, w1]
  refine Bool.and_eq_true_iff.mpr ⟨rfl, decide_eq_true ?_⟩
  omega
/-- two lists of names in a list -/
def twoD (a b : List Str) : PyData := .list [strsD a, strsD b]
theorem twoS_shaped {a b : List Str} (ha : ∀ t ∈ a, NmOk t) (hb : ∀ t ∈ b, NmOk t) : SeqAt.shaped (twoD a b) = true := by
  unfold SeqAt.shaped twoD strsD
  simp only [PyData.canLay0, PyData.canLayAll0, PyData.depth, PyData.depthAll]
  have d1 := depth_strs a
  have d2 := depth_strs b
  rw [lay_strs a ha, lay_strs b hb]
  refine Bool.and_eq_true_iff.mpr ⟨rfl, decide_eq_true ?_⟩
  omega
theorem twoS_show (a b : List Str) : (twoD a b).showable = true := by
  unfold twoD strsD
  simp only [PyData.showable, PyData.showableAll]
  rw [showAll_strs, showAll_strs]
  rfl
theorem twoS_shown {a b : List Str} (ha : ∀ t ∈ a, NmOk t) (la : a.length ≤ 48) (hb : ∀ t ∈ b, NmOk t) (lb : b.length ≤ 48) : (twoD a b).shown.length ≤ sizeLine := by
  unfold twoD
  have sz := shown_list (B := 20000) (ds := [strsD a, strsD b]) fun z hz => by
    simp only [List.mem_cons, List.not_mem_nil, or_false] at hz
    rcases hz with rfl | rfl
    · exact strs_shown ha la
    · exact strs_shown hb lb
  exact Nat.le_trans sz (by show (20000 + 2) * 2 + 3 ≤ sizeLine; decide)
/-- what is not in B stays -/
def KN (B G F : Hp) : Prop := ∀ b o, B b = none → G b = some o → F b = some o
theorem KN.same {B G F : Hp} (s : Same G F) : KN B G F := fun b o _ e => s b o e
theorem KN.trans {B G F F' : Hp} (h : KN B G F) (h' : KN B F F') : KN B G F' := fun b o n e => h' b o n (h b o n e)
theorem KN.upd {B F : Hp} {q : Addr} {u o : HO} (h : B q = some u) : KN B F (L2.upd F q o) := fun b v n e => by
  rw [upd_ne (fun z => by rw [z, h] at n; cases n)]
  exact e
theorem WvAtN.to {K : PySem.W.Frag} {CN CO CI CW : Addr} {S : Sorts K CN CO CI} {B G F : Hp} {p : Addr} {nm : List Nm} {ws : List Wr} (h : WvAtN K S CW B G p nm ws) (bp : B p = none) (k : KN B G F) (kt : KT K G F) (nodes : Nodes S nm F) : WvAt K S CW F p nm ws := by
  obtain ⟨dx, d, dl, ld, dv, hp, wf, n1, n2, n3, n4, ⟨l1, li1⟩, l2, li2⟩ := h
  refine ⟨dx, d, dl, ld, dv, k _ _ bp hp, k _ _ n1 wf.named, ⟨l1, k _ _ n2 li1.hd, li1.len, li1.nd, fun a h => ⟨rfl, (li1.new a h).2⟩, fun i x la e1 e2 => k _ _ (li1.new la (List.mem_of_getElem? e2)).1 (li1.at_ i x la e1 e2)⟩, ?_, ⟨l2, k _ _ n4 li2.hd, li2.len, li2.nd, fun a h => ⟨rfl, (li2.new a h).2⟩, fun i x la e1 e2 => k _ _ (li2.new la (List.mem_of_getElem? e2)).1 (li2.at_ i x la e1 e2)⟩, nodes⟩
  obtain ⟨ps, h1, al⟩ := wf.laid
  exact ⟨ps, k _ _ n3 h1, al.imp fun v w ⟨q, e, h⟩ => ⟨q, e, kt _ _ h⟩⟩
theorem NodeS.kept {K : PySem.W.Frag} {cl : Srt → Addr} {dd a p : Addr} {s : Spec} {H H1 : Hp} (h : NodeS K cl dd s a H) (k : Kept p H H1) (hp : PotAt H p) : NodeS K cl dd s a H1 := by
  obtain ⟨dx, fs, tm, x, h1, h2, h3, h4⟩ := h
  obtain ⟨u, v, g1, g2, g3, g4⟩ := id hp
  refine ⟨dx, fs, tm, x, k.at g4 h1 (fun z => by cases z), h2, k.tup hp h3, ?_⟩
  cases s with
  | own ts g => exact k.tup hp h4
  | resample u d => exact k.at g4 h4 (fun z => by injection z with z; exact absurd (congrArg List.length z) (by simp))
  | _ => trivial
theorem nodes_of {K : PySem.W.Frag} {CN CO CI : Addr} {cl : Srt → Addr} {dd : Addr} {c : ClsS K cl CN CO CI} {H : Hp} {nm : List Nm} {ks : List Knot} (h : Al (NmK K cl dd H) nm ks) (ok : ∀ k ∈ ks, SpecOk k.2) : Nodes (sorts cl dd c) nm H := fun x hx => by
  obtain ⟨i, ei⟩ := List.getElem?_of_mem hx
  obtain ⟨k, ek, _, e, n⟩ := h.get ei
  rw [e]
  exact n.inn (ok k (List.mem_of_getElem? ek))
/-! ### == of weaves, True or False -/
/-- data that are equal just where what they are made of is -/
theorem eqvAll_map {α : Type} [DecidableEq α] {g : α → PyData} (h : ∀ a b, PyData.eqv (g a) (g b) = decide (a = b)) : ∀ l m : List α, PyData.eqvAll (l.map g) (m.map g) = decide (l = m)
  | [], [] => by rw [List.map_nil, PyData.eqvAll]; rfl
  | [], y :: b => by rw [List.map_nil, List.map_cons, PyData.eqvAll]; rfl
  | x :: a, [] => by rw [List.map_nil, List.map_cons, PyData.eqvAll]; rfl
  | x :: a, y :: b => by
    rw [List.map_cons, List.map_cons, PyData.eqvAll, h, eqvAll_map h a b]
    by_cases z : x = y
    · by_cases q : a = b
      · rw [z, q]
        simp
      · rw [decide_eq_false q, Bool.and_false, decide_eq_false fun h => q (List.cons.inj h).2]
    · rw [decide_eq_false z, Bool.false_and, decide_eq_false fun h => z (List.cons.inj h).1]
theorem int_eqv (a b : Int) : PyData.eqv (.int a) (.int b) = decide (a = b) := by
  rw [PyData.eqv]
  by_cases z : a = b
  · rw [z, decide_eq_true rfl]
    exact beq_self_eq_true _
  · rw [decide_eq_false z]
    exact beq_eq_false_iff_ne.mpr z
theorem nat_eqv (a b : Nat) : PyData.eqv (natD a) (natD b) = decide (a = b) := by
  unfold natD
  rw [int_eqv]
  exact decide_eq_decide.mpr ⟨fun z => by omega, fun z => by rw [z]⟩
theorem str_eqv (a b : Str) : PyData.eqv (.str a) (.str b) = decide (a = b) := by
  rw [PyData.eqv]
  by_cases z : a = b
  · rw [z, decide_eq_true rfl]
    exact beq_self_eq_true _
  · rw [decide_eq_false z]
    exact beq_eq_false_iff_ne.mpr z
theorem and_dec {a b : Prop} [Decidable a] [Decidable b] {e : Prop} [Decidable e] (h : e ↔ a ∧ b) : (decide a && decide b) = decide e := by
  rw [← Bool.decide_and]
  exact decide_eq_decide.mpr h.symm
theorem nil_eqv : PyData.eqvAll [] [] = true := by rw [PyData.eqvAll]
instance decWr : DecidableEq Wr := fun a b => decidable_of_iff (a.src = b.src ∧ a.goal = b.goal ∧ a.place = b.place ∧ a.delay = b.delay) ⟨fun h => by
  obtain ⟨a1, a2, a3, a4⟩ := a
  obtain ⟨b1, b2, b3, b4⟩ := b
  obtain ⟨rfl, rfl, rfl, rfl⟩ := h
  rfl, fun h => by
  rw [h]
  exact ⟨rfl, rfl, rfl, rfl⟩⟩
theorem cord_eqv (a b : Wr) : PyData.eqv (cordD a) (cordD b) = decide (a = b) := by
  unfold cordD
  rw [PyData.eqv, PyData.eqvAll, PyData.eqvAll, PyData.eqvAll, PyData.eqvAll, nil_eqv, str_eqv, str_eqv, nat_eqv, nat_eqv, Bool.and_true, ← Bool.decide_and, ← Bool.decide_and, ← Bool.decide_and]
  refine decide_eq_decide.mpr ?_
  cases a
  cases b
  rw [Wr.mk.injEq]
def tagA : Srt → Str
  | .gain => "gain"
  | .mix => "mix"
  | .times => "times"
  | .choose => "choose"
  | .up => "up"
  | .down => "down"
  | .resample => "resample"
  | .own => "own"
  | .outlet => "outlet"
  | .inlet => "inlet"
theorem tagA_inj {A B : Srt} (h : tagA A = tagA B) : A = B := by
  cases A <;> cases B <;> first | rfl | exact absurd h (by decide +kernel)
theorem spec_tag (s : Spec) : ∃ r, specD s = .tuple (.str (tagA (srt s)) :: r) := by
  cases s <;> exact ⟨_, rfl⟩
theorem spec_eqv (s t : Spec) : PyData.eqv (specD s) (specD t) = decide (s = t) := by
  by_cases z : srt s = srt t
  · have one : ∀ a b : Str, a = b → PyData.eqv (.str a) (.str b) = true := fun a b e => by rw [str_eqv, decide_eq_true e]
    cases s with
    | gain b l g =>
      cases t with
      | gain b2 l2 g2 =>
        show PyData.eqv (.tuple [.str "gain", .int b, natD l, natD g]) (.tuple [.str "gain", .int b2, natD l2, natD g2]) = _
        rw [PyData.eqv, PyData.eqvAll, PyData.eqvAll, PyData.eqvAll, PyData.eqvAll, nil_eqv, one _ _ rfl, int_eqv, nat_eqv, nat_eqv, Bool.and_true, Bool.true_and, ← Bool.decide_and, ← Bool.decide_and]
        exact decide_eq_decide.mpr (by rw [Spec.gain.injEq])
      | _ => cases z
    | mix n =>
      cases t with
      | mix n2 =>
        show PyData.eqv (.tuple [.str "mix", natD n]) (.tuple [.str "mix", natD n2]) = _
        rw [PyData.eqv, PyData.eqvAll, PyData.eqvAll, nil_eqv, one _ _ rfl, nat_eqv, Bool.and_true, Bool.true_and]
        exact decide_eq_decide.mpr (by rw [Spec.mix.injEq])
      | _ => cases z
    | up n =>
      cases t with
      | up n2 =>
        show PyData.eqv (.tuple [.str "up", natD n]) (.tuple [.str "up", natD n2]) = _
        rw [PyData.eqv, PyData.eqvAll, PyData.eqvAll, nil_eqv, one _ _ rfl, nat_eqv, Bool.and_true, Bool.true_and]
        exact decide_eq_decide.mpr (by rw [Spec.up.injEq])
      | _ => cases z
    | down n =>
      cases t with
      | down n2 =>
        show PyData.eqv (.tuple [.str "down", natD n]) (.tuple [.str "down", natD n2]) = _
        rw [PyData.eqv, PyData.eqvAll, PyData.eqvAll, nil_eqv, one _ _ rfl, nat_eqv, Bool.and_true, Bool.true_and]
        exact decide_eq_decide.mpr (by rw [Spec.down.injEq])
      | _ => cases z
    | resample u d =>
      cases t with
      | resample u2 d2 =>
        show PyData.eqv (.tuple [.str "resample", natD u, natD d]) (.tuple [.str "resample", natD u2, natD d2]) = _
        rw [PyData.eqv, PyData.eqvAll, PyData.eqvAll, PyData.eqvAll, nil_eqv, one _ _ rfl, nat_eqv, nat_eqv, Bool.and_true, Bool.true_and, ← Bool.decide_and]
        exact decide_eq_decide.mpr (by rw [Spec.resample.injEq])
      | _ => cases z
    | own ts g =>
      cases t with
      | own ts2 g2 =>
        show PyData.eqv (.tuple [.str "own", .tuple (ts.map natD), natD g]) (.tuple [.str "own", .tuple (ts2.map natD), natD g2]) = _
        rw [PyData.eqv, PyData.eqvAll, PyData.eqvAll, PyData.eqvAll, nil_eqv, one _ _ rfl, nat_eqv, PyData.eqv, eqvAll_map nat_eqv, Bool.and_true, Bool.true_and, ← Bool.decide_and]
        exact decide_eq_decide.mpr (by rw [Spec.own.injEq])
      | _ => cases z
    | times => cases t with
      | times =>
        show PyData.eqv (.tuple [.str "times"]) (.tuple [.str "times"]) = _
        rw [PyData.eqv, PyData.eqvAll, nil_eqv, one _ _ rfl, decide_eq_true rfl]
        rfl
      | _ => cases z
    | choose => cases t with
      | choose =>
        show PyData.eqv (.tuple [.str "choose"]) (.tuple [.str "choose"]) = _
        rw [PyData.eqv, PyData.eqvAll, nil_eqv, one _ _ rfl, decide_eq_true rfl]
        rfl
      | _ => cases z
    | outlet => cases t with
      | outlet =>
        show PyData.eqv (.tuple [.str "outlet"]) (.tuple [.str "outlet"]) = _
        rw [PyData.eqv, PyData.eqvAll, nil_eqv, one _ _ rfl, decide_eq_true rfl]
        rfl
      | _ => cases z
    | inlet => cases t with
      | inlet =>
        show PyData.eqv (.tuple [.str "inlet"]) (.tuple [.str "inlet"]) = _
        rw [PyData.eqv, PyData.eqvAll, nil_eqv, one _ _ rfl, decide_eq_true rfl]
        rfl
      | _ => cases z
  · obtain ⟨r, e1⟩ := spec_tag s
    obtain ⟨r', e2⟩ := spec_tag t
    rw [e1, e2, PyData.eqv, PyData.eqvAll, str_eqv, decide_eq_false (fun q => z (tagA_inj q)), Bool.false_and, decide_eq_false (fun q => z (by rw [q]))]
theorem knot_eqv (a b : Knot) : PyData.eqv (knotD a) (knotD b) = decide (a = b) := by
  obtain ⟨a1, a2⟩ := a
  obtain ⟨b1, b2⟩ := b
  show PyData.eqv (.tuple [.str a1, specD a2]) (.tuple [.str b1, specD b2]) = _
  rw [PyData.eqv, PyData.eqvAll, PyData.eqvAll, nil_eqv, str_eqv, spec_eqv, Bool.and_true, ← Bool.decide_and]
  exact decide_eq_decide.mpr (by rw [Prod.mk.injEq])
theorem cordL_eqv (a b : List Wr) : PyData.eqv (.list (a.map cordD)) (.list (b.map cordD)) = decide (a = b) := by
  rw [PyData.eqv]
  exact eqvAll_map cord_eqv a b
/-- two lists in a tuple -/
def webD (ks : List Knot) (cs : List Wr) : PyData := .tuple [.list (ks.map knotD), .list (cs.map cordD)]
theorem web_eqv (ks ks' : List Knot) (cs cs' : List Wr) : PyData.eqv (webD ks cs) (webD ks' cs') = decide (ks = ks' ∧ cs = cs') := by
  unfold webD
  rw [PyData.eqv, PyData.eqvAll, PyData.eqvAll, nil_eqv, PyData.eqv, PyData.eqv, eqvAll_map knot_eqv, eqvAll_map cord_eqv, Bool.and_true, ← Bool.decide_and]
/-- == of nodes of any sorts -/
def DNodeB (K : PySem.W.Frag) (cl : Srt → Addr) (dd : Addr) : EqB := fun x y b H => ∃ A, DOwnB K (cl A) (RN K cl dd A) x y b H
theorem node_mk {K : PySem.W.Frag} {cl : Srt → Addr} {dd : Addr} (ap : Apart K cl) {H : Hp} {a c : Addr} {s t : Spec} (h1 : NodeS K cl dd s a H) (h2 : NodeS K cl dd t c H) : DNodeB K cl dd (.ref a) (.ref c) (decide (s = t)) H := by
  obtain ⟨d1, f1, i1, _⟩ := h1.no
  obtain ⟨d2, f2, i2, _⟩ := h2.no
  exact ⟨srt s, a, d1, f1, _, rfl, i1, .ins i2, (ap _ _).2, s, t, c, rfl, rfl, h1, h2, rfl⟩
theorem refl_el {X : Cx} : ReflB X (DElB X.K) := ReflB.or (ReflB.or (ReflB.or refl_flat refl_same) (refl_tup refl_flat)) (refl_list refl_flat)
theorem node_uniq {X : Cx} {cl : Srt → Addr} {dd : Addr} (ap : Apart X.K cl) {pins : List (Addr × Obj)} {σ : L2.St} {H : Hp} {s0 : Shared} (I : Inv X pins σ H s0) {a : Addr} {s t : Spec} (h : NodeS X.K cl dd s a H) (h' : NodeS X.K cl dd t a H) : s = t := by
  obtain ⟨dx, fs, tm, x, h1, h2, h3, h4⟩ := h
  obtain ⟨dy, gs, tm', y, g1, g2, g3, g4⟩ := h'
  rw [h1] at g1
  injection g1 with g1
  injection g1 with e1 e2 e3
  have e := ap.inj e1
  subst e3
  have et : tm = tm' := by
    have := h2.made.symm.trans g2.made
    injection this with this
    injection this
  subst et
  have em := I.tuple_inj h3 g3
  obtain ⟨bs, l1, l2, prs, all⟩ := made_prsB (dd := dd) e h4 g4
  rw [← em] at prs
  have : bs.all id = true := by
    rw [← allD_list]
    refine allD_true fun j hj => ?_
    have g := List.getElem?_eq_getElem (l := madeS dd x s) (i := j) (by omega)
    exact refl_el pins σ H s0 I _ _ (prs j _ _ g g)
  rw [this] at all
  exact of_decide_eq_true all.symm
section
variable {cl : Srt → Addr} {dd : Addr}
theorem refl_node {X : Cx} (ap : Apart X.K cl) : ReflB X (DNodeB X.K cl dd) := fun pins σ H s0 I x b d => by
  obtain ⟨A, a, dx, fs, t0, rfl, h1, h2, h3, s, t, c, e, e2, n1, n2, rfl⟩ := d
  cases e2
  exact decide_eq_true (node_uniq ap I n1 n2)
theorem TyE.ext {H H' : Hp} {x : V} {t : Value} (h : TyE H x t) (e : Ext H H') : TyE H' x t := by
  cases h with
  | non => exact .non
  | bl y => exact .bl y
  | int i => exact .int i
  | str y => exact .str y
  | lst h => exact .lst (e _ _ h)
  | tup h => exact .tup (e _ _ h)
  | dK h => exact .dK (e _ _ h)
  | ins h => exact .ins (e _ _ h)
theorem monB_node {K : PySem.W.Frag} : MonB (DNodeB K cl dd) := fun x y b H H' e d => by
  obtain ⟨A, a, dx, fs, t0, h0, h1, h2, h3, s, t, c, e1, e2, n1, n2, h4⟩ := d
  exact ⟨A, a, dx, fs, t0, h0, e _ _ h1, TyE.ext h2 e, h3, s, t, c, e1, e2, n1.keep e, n2.keep e, h4⟩
def DPrB (K : PySem.W.Frag) (cl : Srt → Addr) (dd : Addr) : EqB := fun x y b H => DFlatB x y b H ∨ DNodeB K cl dd x y b H
theorem rcB_node {X : Cx} (hEq : ∀ A, EqCB X.prog X.w X.K X.mg X.base 3 (RN X.K cl dd A) (cl A)) : RcGB X 3 (DNodeB X.K cl dd) := fun A pins s σ H x y u v b sb I rx ry d => by
  obtain ⟨B, d⟩ := d
  exact (hEq B).rc A pins s σ H x y u v b sb I rx ry d
theorem rcB_pairs {X : Cx} (ap : Apart X.K cl) (hEq : ∀ A, EqCB X.prog X.w X.K X.mg X.base 3 (RN X.K cl dd A) (cl A)) : RcGB X 5 (DListB (DTupB X.K (DPrB X.K cl dd))) := by
  have e1 : EqGB X 3 (DNodeB X.K cl dd) := (rcB_node hEq).eqG (refl_node ap) fun x y b H d => by
    obtain ⟨A, a, dx, fs, t0, h0, h1, h2, h3, s, t, c, e1, e2, _⟩ := d
    exact ⟨a, c, h0, e2⟩
  have e2 : EqGB X 3 (DPrB X.K cl dd) := EqGB.or (eqGB_flat.mono (Nat.zero_le _)) e1
  have m2 : MonB (DPrB X.K cl dd) := MonB.or monB_flat monB_node
  have r2 : ReflB X (DPrB X.K cl dd) := ReflB.or refl_flat (refl_node ap)
  exact rcGB_list (monB_tup m2) (eqGB_tup m2 e2 r2)
def knotsB (a b : List Knot) : Nat → Bool := fun i => decide (a[i]? = b[i]?)
theorem knotsB_all (a b : List Knot) : (decide (a.length = b.length) && allD (knotsB a b) a.length) = decide (a = b) := by
  by_cases z : a = b
  · subst z
    rw [decide_eq_true rfl, decide_eq_true rfl, Bool.true_and]
    exact allD_true fun j _ => decide_eq_true rfl
  · rw [decide_eq_false z]
    by_cases l : a.length = b.length
    · rw [decide_eq_true l, Bool.true_and]
      have : ∃ i, i < a.length ∧ a[i]? ≠ b[i]? := by
        apply Classical.byContradiction
        intro q
        apply z
        apply List.ext_getElem?
        intro i
        by_cases il : i < a.length
        · exact Classical.byContradiction fun w => q ⟨i, il, w⟩
        · rw [List.getElem?_eq_none (by omega), List.getElem?_eq_none (by omega)]
      obtain ⟨i, il, w⟩ := this
      exact allD_false il (decide_eq_false w)
    · rw [decide_eq_false l, Bool.false_and]
theorem prsB_pairs {K : PySem.W.Frag} (ap : Apart K cl) {H : Hp} {pv pv' : List V} {nm nm' : List Nm} {ks ks' : List Knot} (h1 : Al (PairAt K H) pv nm) (h2 : Al (PairAt K H) pv' nm') (h3 : Al (NmK K cl dd H) nm ks) (h4 : Al (NmK K cl dd H) nm' ks') : PrsB (DTupB K (DPrB K cl dd)) (knotsB ks ks') pv pv' H := fun i v v' e e' => by
  obtain ⟨x, ex, q, rfl, hq⟩ := h1.get e
  obtain ⟨x', ex', q', rfl, hq'⟩ := h2.get e'
  obtain ⟨k, ek, e1, _, n1⟩ := h3.get ex
  obtain ⟨k', ek', e2, _, n2⟩ := h4.get ex'
  refine ⟨q, q', _, _, fun i => [decide (x.name = x'.name), decide (k.2 = k'.2)].getD i true, rfl, rfl, hq, hq', prsB_cons (.inl (fl_str _ _)) (prsB_cons (.inr (node_mk ap n1 n2)) prsB_nil), ?_⟩
  show knotsB ks ks' i = (allD (fun i => [decide (x.name = x'.name), decide (k.2 = k'.2)].getD i true) 2 && true)
  have := allD_list [decide (x.name = x'.name), decide (k.2 = k'.2)]
  rw [show [decide (x.name = x'.name), decide (k.2 = k'.2)].length = 2 from rfl] at this
  rw [this, Bool.and_true]
  simp only [List.all_cons, List.all_nil, id, Bool.and_true]
  rw [← Bool.decide_and]
  unfold knotsB
  rw [ek, ek', e1, e2]
  refine decide_eq_decide.mpr ⟨fun z => ?_, fun z => ?_⟩
  · have := Option.some.inj z
    rw [this]
    exact ⟨rfl, rfl⟩
  · obtain ⟨k1, k2⟩ := k
    obtain ⟨k1', k2'⟩ := k'
    obtain ⟨z1, z2⟩ := z
    have z1 : k1 = k1' := z1
    have z2 : k2 = k2' := z2
    rw [z1, z2]
end
/-- a weave of these lists -/
def WvK (K : PySem.W.Frag) {CN CO CI : Addr} {cl : Srt → Addr} (dd : Addr) (c : ClsS K cl CN CO CI) (CW : Addr) (H : Hp) (a : Addr) (ks : List Knot) (cs : List Wr) : Prop := ∃ nm, WvAt K (sorts cl dd c) CW H a nm cs ∧ Al (NmK K cl dd H) nm ks ∧ WvOk nm cs ∧ CordsOk cs
theorem WvK.keep {K : PySem.W.Frag} {CN CO CI : Addr} {cl : Srt → Addr} {dd : Addr} {c : ClsS K cl CN CO CI} {CW : Addr} {H H1 : Hp} {a : Addr} {ks : List Knot} {cs : List Wr} (h : WvK K dd c CW H a ks cs) (s : Same H H1) : WvK K dd c CW H1 a ks cs := by
  obtain ⟨nm, h1, h2, h3, h4⟩ := h
  exact ⟨nm, h1.keep s, h2.imp fun x k h => h.keep s, h3, h4⟩
/-- whether a weave is equal to a thing -/
def RW (K : PySem.W.Frag) {CN CO CI : Addr} {cl : Srt → Addr} (dd : Addr) (c : ClsS K cl CN CO CI) (CW : Addr) (a : Addr) (y : V) (b : Bool) (H : Hp) : Prop := ∃ (ks : List Knot) (cs : List Wr), WvK K dd c CW H a ks cs ∧ ((∃ q ks' cs', y = .ref q ∧ WvK K dd c CW H q ks' cs' ∧ b = decide (ks = ks' ∧ cs = cs')) ∨ ∃ T, TyE H y (.type T) ∧ PySem.W.kitOne K (.type T) (.ref CW) = some false ∧ b = false)
theorem TyE.tyX {K : PySem.W.Frag} {H : Hp} {y : V} {T : String} (h : TyE H y (.type T)) : TyX K H y (.type T) := by
  cases h with
  | non => exact TyX.base .non
  | bl y => exact TyX.base (.bl y)
  | int i => exact TyX.base (.int i)
  | str y => exact TyX.base (.str y)
  | lst h => exact TyX.base (.lst h)
  | tup h => exact TyX.base (.tup h)
  | dK h => exact TyX.base (.dK h)
section
variable {P : Program} {w : World} {K : PySem.W.Frag} {mg : Str → Option Value} {base : Heap} {f f1 f2 f3 f4 f5 f6 f7 f8 f9 C CN CO CI CW CU dd : Addr} {cl : Srt → Addr} {fd fd1 fd2 fd3 fd4 fd5 fd6 fd7 fd8 fd9 : FuncData}
abbrev nWeaveEq : List Str := ["self", "other"]
theorem scWeaveEq : FnScope nWeaveEq ["self", "other"] (defScope sWeaveEq) := ⟨rfl, rfl, rfl, by decide +kernel, rfl, by decide +kernel, by decide +kernel⟩
theorem ok_wvEqB (c : ClsS K cl CN CO CI) (ap : Apart K cl) (F : FnM K "__eq__" "Weave.__eq__" sWeaveEq f fd) (T : WvC K CW) (iW : InsC K CW CW) (c0 : Cls K CW)
    (mP : Meth K CW "pairs" f1) (GP : FnOk P w K mg base CX0 1 f1 fd1 ["self"] (spWvPairs K (sorts cl dd c) CW)) (bP : Binds K fd1 ["self"] [])
    (hEq : ∀ A, EqCB P w K mg base 3 (RN K cl dd A) (cl A)) (gW : mg "Weave" = some (.ref CW)) (gIs : mg "isinstance" = none) : FnOk P w K mg base CX0 6 f fd ["self", "other"] (spEqB (RW K dd c CW)) := by
  refine F.ok scWeaveEq (fun vs H Q E h => ?_) (fun cdv A outer s H vs Q E hr h => ?_)
  · obtain ⟨a, y, b, rfl, _⟩ := h
    rfl
  · obtain ⟨a, y, b, rfl, ⟨ks, cs, ⟨nm, wa, al, ok, cok⟩, rel⟩, kk⟩ := h
    have hu := hr.units
    have nd := scWeaveEq.nd
    have hr5 : Room 5 _ := hr
    have hr1 : Room 1 _ := hr.mono (by decide)
    refine ⟨_, PSs.nox (pss_one (ps_ret (pe_and (pe_callB call_isi (by rfl) gIs boot_isinstance (pa_cons (pv 1) (pa_cons (pe_glob (v := .ref CW) rfl gW rfl) pa_nil))) (pe_and (pe_cmpR (op_eqB (rcB_pairs ap hEq) hr5) (pe_meth0 (pv 0) c0 mP GP hr1 bP .nil pass0) (pe_meth0 (pv 1) c0 mP GP hr1 bP .nil pass0) (nomark _)) (pe_one (pe_cmpR (op_eqD hu) (pe_fld (pv 0) rfl) (pe_fld (pv 1) rfl) (nomark _))))))), ?_⟩
    rcases rel with ⟨q, ks', cs', rfl, ⟨nm', wb, al', ok', cok'⟩, rfl⟩ | ⟨Ty, ty, ki, rfl⟩
    · obtain ⟨dx, d, dl, ld, dv, hp, wf⟩ := id wa
      obtain ⟨dx', d', dl', ld', dv', hp', wf'⟩ := id wb
      refine ⟨_, rfl, _, _, _, _, true, rfl, ClsV.own _, iW.ty c0 hp', iW.kit, _, rfl, iteT_ rfl ?_⟩
      refine ⟨_, rfl, a, dx, _, rfl, hp, rfl, a, nm, cs, rfl, wa, ok.nms, fun l1 H1 s1 f1 h1 => ?_⟩
      refine ⟨_, rfl, q, dx', _, rfl, s1 _ _ hp', rfl, q, nm', cs', rfl, wb.keep s1, ok'.nms, fun l2 H2 s2 f2 h2 => ?_⟩
      obtain ⟨pv, hl1, ap1⟩ := h1.keep s2
      obtain ⟨pv', hl2, ap2⟩ := h2
      have t2 := s1.trans s2
      have alk := al.imp fun x k h => h.keep t2
      have alk' := al'.imp fun x k h => h.keep t2
      refine ⟨_, ⟨l1, l2, pv, pv', knotsB ks ks', rfl, rfl, hl1, hl2, fun _ => prsB_pairs ap ap1 ap2 alk alk', rfl⟩, fun H3 e3 => ?_⟩
      have e1 : pv.length = ks.length := ap1.len.trans al.len
      have e2 : pv'.length = ks'.length := ap2.len.trans al'.len
      rw [e1, e2, knotsB_all]
      have t3 : Same H H3 := t2.trans e3
      refine ⟨_, rfl, ?_⟩
      by_cases z : ks = ks'
      · rw [decide_eq_true z]
        refine iteT_ rfl ?_
        obtain ⟨ps, hw, aw⟩ := wf.laid.keep t3
        obtain ⟨ps', hw', aw'⟩ := wf'.laid.keep t3
        have csh := cords_eqv cok.nm
        have csh' := cords_eqv cok'.nm
        refine ⟨_, rfl, a, CW, dx, _, _, rfl, t3 _ _ hp, T.cl, T.n3, rfl, _, rfl, q, CW, dx', _, _, rfl, t3 _ _ hp', T.cl, T.n3, rfl, .list (cs.map cordD), .list (cs'.map cordD), .lst (SqL.of hw) (wires_dp aw), .lst (SqL.of hw') (wires_dp aw'), csh, csh', ?_⟩
        rw [cordL_eqv]
        have e := kk H3 t3
        have e3 : decide (ks = ks' ∧ cs = cs') = decide (cs = cs') := decide_eq_decide.mpr ⟨fun h => h.2, fun h => ⟨z, h⟩⟩
        rw [e3] at e
        exact e
      · rw [decide_eq_false z]
        refine iteF_ rfl ?_
        have e := kk H3 t3
        rw [decide_eq_false fun h => z h.1] at e
        exact e
    · refine ⟨_, rfl, _, _, _, _, false, rfl, ClsV.own _, TyE.tyX ty, ki, _, rfl, iteF_ rfl ?_⟩
      exact kk H Ext.rfl'
end
end Sw
namespace Sw
open PySem PySem.Spec PyProof.Rows L2
/-! ### webs with one thing otherwise -/
def putK0 (ks : List Knot) (x : Str) (s : Spec) : List Knot := ks.map fun k => if k.1 = x then (k.1, s) else k
def delW (ws : List Wr) (ds : List Nat) : List Wr := List.zipWith (fun c d => (⟨c.src, c.goal, c.place, d⟩ : Wr)) ws ds
theorem delW_len {ws : List Wr} {ds : List Nat} (h : ds.length = ws.length) : (delW ws ds).length = ws.length := by
  unfold delW
  rw [List.length_zipWith, h, Nat.min_self]
theorem delW_get {ws : List Wr} {ds : List Nat} {j : Nat} {c : Wr} {d : Nat} (e : ws[j]? = some c) (e' : ds[j]? = some d) : (delW ws ds)[j]? = some ⟨c.src, c.goal, c.place, d⟩ := by
  unfold delW
  rw [List.getElem?_zipWith, e, e']
theorem delW_inv {ws : List Wr} {ds : List Nat} (h : ds.length = ws.length) {j : Nat} {w : Wr} (e : (delW ws ds)[j]? = some w) : ∃ c d, ws[j]? = some c ∧ ds[j]? = some d ∧ w = ⟨c.src, c.goal, c.place, d⟩ := by
  have jl := (List.getElem?_eq_some_iff.mp e).1
  rw [delW_len h] at jl
  have e1 : ws[j]? = some ws[j] := List.getElem?_eq_getElem jl
  have e2 : ds[j]? = some (ds[j]'(by omega)) := List.getElem?_eq_getElem (by omega)
  rw [delW_get e1 e2] at e
  exact ⟨_, _, e1, e2, (Option.some.inj e).symm⟩
theorem delW_to {ws : List Wr} {ds : List Nat} (h : ds.length = ws.length) {c : Wr} (hc : c ∈ ws) : ∃ d, (⟨c.src, c.goal, c.place, d⟩ : Wr) ∈ delW ws ds := by
  obtain ⟨j, ej⟩ := List.getElem?_of_mem hc
  have jl := (List.getElem?_eq_some_iff.mp ej).1
  have e2 : ds[j]? = some (ds[j]'(by omega)) := List.getElem?_eq_getElem (by omega)
  exact ⟨_, List.mem_of_getElem? (delW_get ej e2)⟩
theorem inl_eq {s : Spec} (h : isInl s = true) : s = .inlet := by
  cases s with
  | inlet => rfl
  | _ => cases h
theorem putK0_to {ks : List Knot} {x : Str} {t : Spec} (hi : ∀ k ∈ ks, k.1 = x → infS k.2 = infS t) {k : Knot} (hk : k ∈ ks) : ∃ k' ∈ putK0 ks x t, k'.1 = k.1 ∧ infS k'.2 = infS k.2 := by
  refine ⟨if k.1 = x then (k.1, t) else k, List.mem_map.mpr ⟨k, hk, rfl⟩, ?_⟩
  by_cases z : k.1 = x
  · rw [if_pos z]
    exact ⟨rfl, (hi k hk z).symm⟩
  · rw [if_neg z]
    exact ⟨rfl, rfl⟩
theorem putK0_fro {ks : List Knot} {x : Str} {t : Spec} (hi : ∀ k ∈ ks, k.1 = x → infS k.2 = infS t) {k' : Knot} (hk : k' ∈ putK0 ks x t) : ∃ k ∈ ks, k'.1 = k.1 ∧ infS k'.2 = infS k.2 ∧ (k'.2 = k.2 ∨ k'.2 = t) := by
  obtain ⟨k, hk, e⟩ := List.mem_map.mp hk
  refine ⟨k, hk, ?_⟩
  rw [← e]
  by_cases z : k.1 = x
  · rw [if_pos z]
    exact ⟨rfl, (hi k hk z).symm, .inr rfl⟩
  · rw [if_neg z]
    exact ⟨rfl, rfl, .inl rfl⟩
theorem putK0_names (ks : List Knot) (x : Str) (t : Spec) : (putK0 ks x t).map (·.1) = ks.map (·.1) := by
  unfold putK0
  rw [List.map_map]
  refine List.map_congr_left fun k _ => ?_
  show (if k.1 = x then (k.1, t) else k).1 = k.1
  split <;> rfl
theorem inf_tks {s t : Spec} (h : infS s = infS t) : tks s = tks t ∧ isOut s = isOut t ∧ isInl s = isInl t := by
  unfold infS at h
  injection h with h1 h2 h3
  exact ⟨h1, h2, h3⟩
theorem Web.put {ks : List Knot} {cs : List Wr} {x : Str} {t : Spec} (w : Web ks cs) (ot : SpecOk t) (hi : ∀ k ∈ ks, k.1 = x → infS k.2 = infS t) : Web (putK0 ks x t) cs := by
  have rea : ∀ {s : Str}, Reach0 ks cs s → Reach0 (putK0 ks x t) cs s := fun {s} r => by
    induction r with
    | inl h i =>
      rename_i k
      obtain ⟨k', hk', e1, e2⟩ := putK0_to hi h
      rw [← e1]
      refine .inl hk' (inl_eq ?_)
      rw [(inf_tks e2).2.2, i]
      rfl
    | step h z _ ih => exact .step h z ih
  refine ⟨⟨by rw [putK0_names]; exact w.b.nd, fun k hk => ?_, fun k hk => ?_, fun c hc => ?_, fun c hc => ?_, w.b.del, w.b.one, fun z => ?_⟩, fun k hk p hp => ?_, fun k hk => ?_⟩
  · obtain ⟨k0, h0, e1, _⟩ := putK0_fro hi hk
    rw [e1]
    exact w.b.nm k0 h0
  · obtain ⟨k0, h0, _, _, e | e⟩ := putK0_fro hi hk
    · rw [e]
      exact w.b.sp k0 h0
    · rw [e]
      exact ot
  · obtain ⟨k, hk, e, o⟩ := w.b.src c hc
    obtain ⟨k', hk', e1, e2⟩ := putK0_to hi hk
    exact ⟨k', hk', e1.trans e, by rw [(inf_tks e2).2.1]; exact o⟩
  · obtain ⟨k, hk, e, o⟩ := w.b.goal c hc
    obtain ⟨k', hk', e1, e2⟩ := putK0_to hi hk
    exact ⟨k', hk', e1.trans e, by rw [(inf_tks e2).1]; exact o⟩
  · obtain ⟨k, hk, o⟩ := w.b.hd fun q => z (by rw [q]; rfl)
    obtain ⟨k', hk', _, e2⟩ := putK0_to hi hk
    exact ⟨k', hk', by rw [(inf_tks e2).2.1]; exact o⟩
  · obtain ⟨k0, h0, e1, e2, _⟩ := putK0_fro hi hk
    rw [(inf_tks e2).1] at hp
    rw [e1]
    exact w.all k0 h0 p hp
  · obtain ⟨k0, h0, e1, _⟩ := putK0_fro hi hk
    rw [e1]
    exact rea (w.rea k0 h0)
theorem Web.delayed {ks : List Knot} {cs : List Wr} {ds : List Nat} (w : Web ks cs) (h : ds.length = cs.length) (hd : ∀ d ∈ ds, d ≤ 9999) : Web ks (delW cs ds) := by
  have inv : ∀ c' ∈ delW cs ds, ∃ c d, c ∈ cs ∧ d ∈ ds ∧ c' = ⟨c.src, c.goal, c.place, d⟩ := fun c' hc' => by
    obtain ⟨j, ej⟩ := List.getElem?_of_mem hc'
    obtain ⟨c, d, e1, e2, e3⟩ := delW_inv h ej
    exact ⟨c, d, List.mem_of_getElem? e1, List.mem_of_getElem? e2, e3⟩
  have keys : (delW cs ds).map keyW = cs.map keyW := by
    apply List.ext_getElem?
    intro j
    rw [List.getElem?_map, List.getElem?_map]
    by_cases jl : j < cs.length
    · have e1 : cs[j]? = some cs[j] := List.getElem?_eq_getElem jl
      have e2 : ds[j]? = some (ds[j]'(by omega)) := List.getElem?_eq_getElem (by omega)
      rw [delW_get e1 e2, e1]
      rfl
    · rw [List.getElem?_eq_none (by rw [delW_len h]; omega), List.getElem?_eq_none (by omega)]
  have rea : ∀ {s : Str}, Reach0 ks cs s → Reach0 ks (delW cs ds) s := fun {s} r => by
    induction r with
    | inl h i => exact .inl h i
    | step hc z _ ih =>
      obtain ⟨d, hd'⟩ := delW_to h hc
      exact .step (c := ⟨_, _, _, d⟩) hd' z ih
  refine ⟨⟨w.b.nd, w.b.nm, w.b.sp, fun c hc => ?_, fun c hc => ?_, fun c hc => ?_, by rw [keys]; exact w.b.one, w.b.hd⟩, fun k hk p hp => ?_, fun k hk => rea (w.rea k hk)⟩
  · obtain ⟨c0, d, hc0, _, rfl⟩ := inv c hc
    exact w.b.src c0 hc0
  · obtain ⟨c0, d, hc0, _, rfl⟩ := inv c hc
    exact w.b.goal c0 hc0
  · obtain ⟨c0, d, _, hd', rfl⟩ := inv c hc
    exact hd d hd'
  · obtain ⟨c, hc, e1, e2⟩ := w.all k hk p hp
    obtain ⟨d, hd'⟩ := delW_to h hc
    exact ⟨_, hd', e1, e2⟩
theorem putK0_len (ks : List Knot) (x : Str) (t : Spec) : (putK0 ks x t).length = ks.length := List.length_map _
theorem knot_inj {ks : List Knot} (nd : (ks.map (·.1)).Nodup) {a b : Knot} (ha : a ∈ ks) (hb : b ∈ ks) (h : a.1 = b.1) : a = b := by
  induction ks with
  | nil => cases ha
  | cons c r ih =>
    rw [List.map_cons, List.nodup_cons] at nd
    obtain ⟨n1, n2⟩ := nd
    rcases List.mem_cons.mp ha with rfl | ha'
    · rcases List.mem_cons.mp hb with rfl | hb'
      · rfl
      · exact absurd (List.mem_map.mpr ⟨b, hb', h.symm⟩) n1
    · rcases List.mem_cons.mp hb with rfl | hb'
      · exact absurd (List.mem_map.mpr ⟨a, ha', h⟩) n1
      · exact ih n2 ha' hb'
theorem nodup_mapOn {α β : Type} {f : α → β} {l : List α} (inj : ∀ a ∈ l, ∀ b ∈ l, f a = f b → a = b) (nd : l.Nodup) : (l.map f).Nodup := List.pairwise_map.mpr (List.Pairwise.imp_of_mem (fun ha hb ne e => ne (inj _ ha _ hb e)) nd)
/-- another name -/
def ren (x y s : Str) : Str := if s = x then y else s
def renK (x y : Str) (ks : List Knot) : List Knot := ks.map fun k => (ren x y k.1, k.2)
def renW (x y : Str) (cs : List Wr) : List Wr := cs.map fun c => ⟨ren x y c.src, ren x y c.goal, c.place, c.delay⟩
theorem ren_inj {x y a b : Str} {N : List Str} (h : y = x ∨ y ∉ N) (ha : a ∈ N) (hb : b ∈ N) (e : ren x y a = ren x y b) : a = b := by
  unfold ren at e
  by_cases za : a = x
  · by_cases zb : b = x
    · rw [za, zb]
    · rw [if_pos za, if_neg zb] at e
      rcases h with h | h
      · rw [za, ← e, h]
      · exact absurd (by rw [e]; exact hb) h
  · by_cases zb : b = x
    · rw [if_neg za, if_pos zb] at e
      rcases h with h | h
      · rw [zb, ← h, e]
      · exact absurd (by rw [← e]; exact ha) h
    · rw [if_neg za, if_neg zb] at e
      exact e
theorem Web.ren {ks : List Knot} {cs : List Wr} {x y : Str} (w : Web ks cs) (oy : NmOk y) (h : y = x ∨ y ∉ ks.map (·.1)) : Web (renK x y ks) (renW x y cs) := by
  have nmOk : ∀ {s : Str}, NmOk s → NmOk (Sw.ren x y s) := fun {s} hs => by
    unfold Sw.ren
    split
    · exact oy
    · exact hs
  have mk : ∀ {k : Knot}, k ∈ ks → (Sw.ren x y k.1, k.2) ∈ renK x y ks := fun {k} hk => List.mem_map.mpr ⟨k, hk, rfl⟩
  have mw : ∀ {c : Wr}, c ∈ cs → (⟨Sw.ren x y c.src, Sw.ren x y c.goal, c.place, c.delay⟩ : Wr) ∈ renW x y cs := fun {c} hc => List.mem_map.mpr ⟨c, hc, rfl⟩
  have gm : ∀ {c : Wr}, c ∈ cs → c.goal ∈ ks.map (·.1) := fun {c} hc => by
    obtain ⟨k, hk, e, _⟩ := w.b.goal c hc
    exact List.mem_map.mpr ⟨k, hk, e⟩
  have rea : ∀ {s : Str}, Reach0 ks cs s → Reach0 (renK x y ks) (renW x y cs) (Sw.ren x y s) := fun {s} r => by
    induction r with
    | inl h i => exact .inl (k := (_, _)) (mk h) i
    | step hc z _ ih => exact .step (c := ⟨_, _, _, _⟩) (mw hc) z ih
  refine ⟨⟨?_, fun k hk => ?_, fun k hk => ?_, fun c hc => ?_, fun c hc => ?_, fun c hc => ?_, ?_, fun z => ?_⟩, fun k hk p hp => ?_, fun k hk => ?_⟩
  · have e : (renK x y ks).map (·.1) = (ks.map (·.1)).map (Sw.ren x y) := by
      unfold renK
      rw [List.map_map, List.map_map]
      rfl
    rw [e]
    exact nodup_mapOn (fun a ha b hb e => ren_inj h ha hb e) w.b.nd
  · obtain ⟨k0, h0, rfl⟩ := List.mem_map.mp hk
    exact nmOk (w.b.nm k0 h0)
  · obtain ⟨k0, h0, rfl⟩ := List.mem_map.mp hk
    exact w.b.sp k0 h0
  · obtain ⟨c0, h0, rfl⟩ := List.mem_map.mp hc
    obtain ⟨k, hk, e, o⟩ := w.b.src c0 h0
    exact ⟨_, mk hk, congrArg (Sw.ren x y) e, o⟩
  · obtain ⟨c0, h0, rfl⟩ := List.mem_map.mp hc
    obtain ⟨k, hk, e, o⟩ := w.b.goal c0 h0
    exact ⟨_, mk hk, congrArg (Sw.ren x y) e, o⟩
  · obtain ⟨c0, h0, rfl⟩ := List.mem_map.mp hc
    exact w.b.del c0 h0
  · have e : (renW x y cs).map keyW = (cs.map keyW).map fun p => (Sw.ren x y p.1, p.2) := by
      unfold renW
      rw [List.map_map, List.map_map]
      rfl
    rw [e]
    refine nodup_mapOn (fun a ha b hb e => ?_) w.b.one
    obtain ⟨c1, h1, rfl⟩ := List.mem_map.mp ha
    obtain ⟨c2, h2, rfl⟩ := List.mem_map.mp hb
    have e1 := congrArg Prod.fst e
    have e2 := congrArg Prod.snd e
    exact Prod.ext (ren_inj h (gm h1) (gm h2) e1) e2
  · obtain ⟨k, hk, o⟩ := w.b.hd fun q => z (by rw [q]; rfl)
    exact ⟨_, mk hk, o⟩
  · obtain ⟨k0, h0, rfl⟩ := List.mem_map.mp hk
    obtain ⟨c, hc, e1, e2⟩ := w.all k0 h0 p hp
    exact ⟨_, mw hc, congrArg (Sw.ren x y) e1, e2⟩
  · obtain ⟨k0, h0, rfl⟩ := List.mem_map.mp hk
    exact rea (w.rea k0 h0)
theorem Web.more {ks : List Knot} {cs : List Wr} {x : Str} (w : Web ks cs) (ox : NmOk x) (h : x ∉ ks.map (·.1)) : Web (ks ++ [(x, .inlet)]) cs := Mid.done (w.mid (t := (x, .inlet)) h ox trivial fun _ => rfl)
/-- one in the place of another one -/
theorem set_split {α : Type} {l : List α} {i : Nat} (h : i < l.length) (y : α) : l.take i ++ [y] ++ l.drop (i + 1) = l.set i y := by
  rw [List.set_eq_take_append_cons_drop, if_pos h, List.append_assoc]
  rfl
theorem set_put {ks : List Knot} (nd : (ks.map (·.1)).Nodup) {i : Nat} {k : Knot} (e : ks[i]? = some k) (t : Spec) : ks.set i (k.1, t) = putK0 ks k.1 t := by
  unfold putK0
  apply List.ext_getElem?
  intro j
  rw [List.getElem?_map, List.getElem?_set]
  have il := (List.getElem?_eq_some_iff.mp e).1
  by_cases z : i = j
  · subst z
    rw [if_pos rfl, if_pos il, e]
    show _ = some (if k.1 = k.1 then (k.1, t) else k)
    rw [if_pos rfl]
  · rw [if_neg z]
    cases ej : ks[j]? with
    | none => rfl
    | some k' =>
      show some k' = some (if k'.1 = k.1 then (k'.1, t) else k')
      rw [if_neg]
      intro q
      have e1 : (ks.map (·.1))[i]? = some k.1 := by rw [List.getElem?_map, e]; rfl
      have e2 : (ks.map (·.1))[j]? = some k.1 := by rw [List.getElem?_map, ej, ← q]; rfl
      obtain ⟨l1, g1⟩ := List.getElem?_eq_some_iff.mp e1
      obtain ⟨l2, g2⟩ := List.getElem?_eq_some_iff.mp e2
      exact z (nodup_inj nd l1 l2 (g1.trans g2.symm))
theorem set_del {cs : List Wr} {i : Nat} {c : Wr} (e : cs[i]? = some c) (d : Nat) : cs.set i ⟨c.src, c.goal, c.place, d⟩ = delW cs ((cs.map Wr.delay).set i d) := by
  have il := (List.getElem?_eq_some_iff.mp e).1
  apply List.ext_getElem?
  intro j
  by_cases jl : j < cs.length
  · have e1 : cs[j]? = some cs[j] := List.getElem?_eq_getElem jl
    rw [List.getElem?_set]
    by_cases z : i = j
    · subst z
      rw [if_pos rfl, if_pos il]
      have e2 : ((cs.map Wr.delay).set i d)[i]? = some d := by
        rw [List.getElem?_set, if_pos rfl, if_pos (by rw [List.length_map]; exact il)]
      rw [delW_get e e2]
    · rw [if_neg z]
      have e2 : ((cs.map Wr.delay).set i d)[j]? = some cs[j].delay := by
        rw [List.getElem?_set, if_neg z, List.getElem?_map, e1]
        rfl
      rw [delW_get e1 e2, e1]
  · rw [List.getElem?_eq_none (by rw [List.length_set]; omega), List.getElem?_eq_none (by rw [delW_len (by rw [List.length_set, List.length_map])]; omega)]
theorem Web.setDel {ks : List Knot} {cs : List Wr} (w : Web ks cs) {i : Nat} {c : Wr} (e : cs[i]? = some c) {d : Nat} (hd : d ≤ 9999) : Web ks (cs.set i ⟨c.src, c.goal, c.place, d⟩) := by
  rw [set_del e]
  refine w.delayed (by rw [List.length_set, List.length_map]) fun x hx => ?_
  rcases List.mem_or_eq_of_mem_set hx with hx | rfl
  · obtain ⟨c, hc, rfl⟩ := List.mem_map.mp hx
    exact w.b.del c hc
  · exact hd
theorem Web.setSpec {ks : List Knot} {cs : List Wr} (w : Web ks cs) {i : Nat} {k : Knot} (e : ks[i]? = some k) {t : Spec} (ot : SpecOk t) (hi : infS k.2 = infS t) : Web (ks.set i (k.1, t)) cs := by
  rw [set_put w.b.nd e]
  exact w.put ot fun z hz q => by
    rw [knot_inj w.b.nd hz (List.mem_of_getElem? e) q]
    exact hi
end Sw
namespace Sw
open PySem PySem.Spec PyProof.Rows L2
/-! ### two items exchanged, another name -/
def spExch (K : PySem.W.Frag) : Sp := fun vs H Q _ => ∃ (p r : Addr) (xs : List V), vs = [.ref p, .ref r] ∧ PotAt H p ∧ H r = some (.lst xs) ∧ xs.length ≤ 1000 ∧ ∀ (D : Addr) (ys : List V) (H' : Hp), ys.Perm xs → H D = none → Kept p H H' → PotAt H' p → H' D = some (.lst ys) → Q (.ref D) H'
section
variable {P : Program} {w : World} {K : PySem.W.Frag} {mg : Str → Option Value} {base : Heap} {f f1 f2 f3 f4 f5 f6 f7 f8 f9 C CN CO CI CW CU dd : Addr} {cl : Srt → Addr} {fd fd1 fd2 fd3 fd4 fd5 fd6 fd7 fd8 fd9 : FuncData}
abbrev nLExchanged : List Str := ["_law_pot_here", "_law_row", "_law_found", "_law_one", "_law_other_here"]
theorem scLExchanged : FnScope nLExchanged ["_law_pot_here", "_law_row"] (defScope sLExchanged) := ⟨rfl, rfl, rfl, by decide +kernel, rfl, by decide +kernel, by decide +kernel⟩
theorem ok_exch (F : FnP K "_law_exchanged" sLExchanged f fd)
    (GT : FnOk P w K mg base CX0 1 f1 fd1 ["_law_pot_here", "_law_many"] spTake) (gT : mg "_law_take" = some (.ref f1)) (kT : PySem.W.keepIn K (.ref f1) = true) (bT : Binds K fd1 ["_law_pot_here", "_law_many"] [])
    (gLen : mg "len" = none) (gList : mg "list" = none) : FnOk P w K mg base CX0 2 f fd ["_law_pot_here", "_law_row"] (spExch K) := by
  refine F.ok scLExchanged (fun vs H Q E h => ?_) (fun cdv A ou s H vs Q E hr h => ?_)
  · obtain ⟨p, r, xs, rfl, _⟩ := h
    rfl
  · obtain ⟨p, r, xs, rfl, hp, hr0, few, kk⟩ := h
    have nd := scLExchanged.nd
    have hr1 : Room 1 _ := hr
    refine ⟨_, PSs.nox (pss_cons (ps_set (i := 2) nd rfl (Or.inl rfl) (pe_callTy call_list_of (by rfl) gList PyProof.Rows.boot_list (pa_cons (pv 1) pa_nil)))
      (pss_cons (ps_if (pt_cmpR op_gt (pe_callB call_len_seq (by rfl) gLen PySem.boot_len (pa_cons (pv 2) pa_nil)) pe_int (nomark _)) (pss_cons (ps_par (i := 3) (j := 4) rfl nd rfl rfl (by decide) rfl rfl (pa_cons (pe_call GT hr1 rfl gT kT bT .nil pass0 (pa_cons (pv 0) (pa_cons (pe_callB call_len_seq (by rfl) gLen PySem.boot_len (pa_cons (pv 2) pa_nil)) pa_nil))) (pa_cons (pe_call GT hr1 rfl gT kT bT .nil pass0 (pa_cons (pv 0) (pa_cons (pe_callB call_len_seq (by rfl) gLen PySem.boot_len (pa_cons (pv 2) pa_nil)) pa_nil))) pa_nil)) rfl)
      (pss_one (ps_asg (pe_tup (pa_cons (pe_ix ix_list (pv 2) (pv 4) (fun _ _ => rfl)) (pa_cons (pe_ix ix_list (pv 2) (pv 3) (fun _ _ => rfl)) pa_nil))) (pg_tup rfl (pgs_cons (pg_sub (pv 2) (pv 3) set_list (by intro _; rfl)) (pgs_cons (pg_sub (pv 2) (pv 4) set_list (by intro _; rfl)) pgs_nil)))))) pss_nil)
      (pss_one (ps_ret (pv 2))))), ?_⟩
    refine ⟨_, rfl, r, _, rfl, .inl (SqL.of hr0), fun D hD => ?_⟩
    have nD : D ≠ p := hp.ne hD
    have s1 := Same.new (o := .lst xs) (Same.refl H) hD
    have hD1 : upd H D (.lst xs) D = some (.lst xs) := upd_same
    have hp1 := hp.keep s1
    generalize upd H D (.lst xs) = H1 at s1 hD1 hp1
    refine ⟨_, rfl, D, _, rfl, .inl (SqL.of hD1), _, _, rfl, rfl, _, rfl, ite2 (fun h => ?_) (fun _ => ?_)⟩
    · have h1 : 1 < xs.length := by
        have := of_decide_eq_true h
        omega
      refine ⟨_, rfl, _, rfl, D, _, rfl, .inl (SqL.of hD1), p, _, rfl, hp1, (by omega), (by omega), fun a H2 a0 a1 k2 hp2 => ?_⟩
      have hD2 := k2 _ _ nD hD1
      refine ⟨_, rfl, _, rfl, D, _, rfl, .inl (SqL.of hD2), p, _, rfl, hp2, (by omega), (by omega), fun b H3 b0 b1 k3 hp3 => ?_⟩
      have hD3 := k3 _ _ nD hD2
      obtain ⟨i, rfl⟩ : ∃ i : Nat, a = (i : Int) := ⟨a.toNat, by omega⟩
      obtain ⟨j, rfl⟩ : ∃ j : Nat, b = (j : Int) := ⟨b.toNat, by omega⟩
      have il : i < xs.length := by omega
      have jl : j < xs.length := by omega
      refine ⟨_, _, rfl, ?_⟩
      refine ⟨_, rfl, _, rfl, D, _, _, _, rfl, rfl, SqL.of hD3, atI_nat (List.getElem?_eq_getElem jl), ?_⟩
      refine ⟨_, rfl, _, rfl, D, _, _, _, rfl, rfl, SqL.of hD3, atI_nat (List.getElem?_eq_getElem il), (by show 2 ≤ sizeLine; decide), fun t ht => ?_⟩
      have s4 := Same.new (o := .tup [xs[j], xs[i]]) (Same.refl H3) ht
      have hD4 := s4 _ _ hD3
      have nt : t ≠ D := (ne_of_none hD3 ht).symm
      refine ⟨t, _, rfl, .inl (.inl upd_same), rfl, _, _, rfl, _, rfl, _, rfl, D, _, _, i, rfl, rfl, hD4, ixN_nat il, ?_⟩
      generalize upd H3 t (.tup [xs[j], xs[i]]) = H4 at s4 hD4
      refine ⟨_, _, rfl, _, rfl, _, rfl, D, _, _, j, rfl, rfl, upd_same, ixN_nat (by rw [List.length_set]; exact jl), rfl, ?_⟩
      have kA : Kept p H H4 := (((Kept.same s1).trans k2).trans k3).trans (Kept.same s4)
      exact ⟨_, rfl, kk D _ _ (List.set_set_perm il jl) hD ((kA.past hD).past hD) (((hp3.keep s4).upd nD).upd nD) upd_same⟩
    · exact ⟨_, rfl, kk D xs H1 (.refl _) hD (Kept.same s1) hp1 hD1⟩
end
end Sw
namespace Sw
open PySem PySem.Spec PyProof.Rows L2
/-! ### another name -/
theorem pi_tupK {X : Cx} {tg l : Expr} {tl : TE} {K : PySem.W.Frag} (h : X.K = K) (hl : PE X l tl) : L2.PI X tg l (iTup K tl) := by
  subst h
  exact pi_tup hl
abbrev scNm1 : Scope := { kind := .function, names := [(Str.ofString ".0", .local), (Str.ofString "_law_row", .local), (Str.ofString "tuple", .globalImplicit), (Str.ofString "_law_elder", .cell), (Str.ofString "_law_tag", .cell)], isGenerator := false, isCoroutine := false }
/-- one thing otherwise -/
def spOth (K : PySem.W.Frag) : Sp := fun vs H Q _ => ∃ (p kl cl0 : Addr) (ks : List Knot) (cs : List Wr), vs = [.ref p, .ref kl, .ref cl0] ∧ PotAt H p ∧ kl ≠ p ∧ cl0 ≠ p ∧ ListD K H kl (ks.map knotD) ∧ ListD K H cl0 (cs.map cordD) ∧ Web ks cs ∧ ks.length ≤ 24 ∧ cs.length ≤ 48 ∧ ks ≠ [] ∧ (∀ k ∈ ks, SpecLo k.2) ∧
  ∀ (t kl' cl' : Addr) (ks' : List Knot) (cs' : List Wr) (H' : Hp), Kept p H H' → PotAt H' p → SqT K H' t [.ref kl', .ref cl'] → ListD K H' kl' (ks'.map knotD) → ListD K H' cl' (cs'.map cordD) → Web ks' cs' → ks'.length ≤ 24 → cs'.length ≤ 48 → kl' ≠ p → cl' ≠ p → Q (.ref t) H'
theorem knots_kept {K : PySem.W.Frag} {H H' : Hp} {p l : Addr} {ks : List Knot} (h : ListD K H l (ks.map knotD)) (n : l ≠ p) (k : Kept p H H') (hp : PotAt H p) : ListD K H' l (ks.map knotD) := h.kt (noLists_map knot_noList _) (KT.kept k hp) (fun o e => k _ _ n e)
theorem cords_kept {K : PySem.W.Frag} {H H' : Hp} {p l : Addr} {cs : List Wr} (h : ListD K H l (cs.map cordD)) (n : l ≠ p) (k : Kept p H H') (hp : PotAt H p) : ListD K H' l (cs.map cordD) := h.kt (noLists_map cord_noList _) (KT.kept k hp) (fun o e => k _ _ n e)
section
variable {P : Program} {w : World} {K : PySem.W.Frag} {mg : Str → Option Value} {base : Heap} {f f1 f2 f3 f4 f5 f6 f7 f8 f9 C CN CO CI CW CU dd : Addr} {cl : Srt → Addr} {fd fd1 fd2 fd3 fd4 fd5 fd6 fd7 fd8 fd9 : FuncData}
abbrev nLNamed : List Str := ["_law_pot_here", "_law_knots", "_law_cords", "_law_elder", "_law_tag", "_law_rows", "_law_other_here", "_law_spec_here", "_law_row", "_law_part", "_law_one"]
theorem scLNamed : FnScope nLNamed ["_law_pot_here", "_law_knots", "_law_cords"] (defScope sLNamed) := ⟨rfl, rfl, rfl, by decide +kernel, rfl, by decide +kernel, by decide +kernel⟩
theorem ok_named2 (F : FnP K "_law_named" sLNamed f fd)
    (GPi : FnOk P w K mg base CX0 2 f1 fd1 ["_law_pot_here", "_law_some"] (spPick K)) (gPi : mg "_law_pick" = some (.ref f1)) (kPi : PySem.W.keepIn K (.ref f1) = true) (bPi : Binds K fd1 ["_law_pot_here", "_law_some"] [])
    (GN : FnOk P w K mg base CX0 2 f2 fd2 ["_law_pot_here", "_law_taken"] spLName) (gN : mg "_law_name" = some (.ref f2)) (kN : PySem.W.keepIn K (.ref f2) = true) (bN : Binds K fd2 ["_law_pot_here", "_law_taken"] [])
    (gLen : mg "len" = none) (gTuple : mg "tuple" = none) : FnOk P w K mg base CX0 3 f fd ["_law_pot_here", "_law_knots", "_law_cords"] (spOth K) := by
  refine F.ok scLNamed (fun vs H Q E h => ?_) (fun cdv A ou s H vs Q E hr h => ?_)
  · obtain ⟨p, kl, cl0, ks, cs, rfl, _⟩ := h
    rfl
  · obtain ⟨p, kl, cl0, ks, cs, rfl, hp, nkp, ncp, hkD, hcD, web, few, fewc, kne, lo, kk⟩ := h
    have nd := scLNamed.nd
    have hr2 : Room 2 _ := hr
    refine ⟨_, PSs.nox (pss_cons (ps_set (i := 3) nd rfl (Or.inr rfl) (pe_ix ix_tup (pe_call GPi hr2 rfl gPi kPi bPi .nil pass0 (pa_cons (pv 0) (pa_cons (pv 1) pa_nil))) pe_int (fun _ _ => rfl)))
      (pss_cons (ps_set (i := 4) nd rfl (Or.inr rfl) (pe_call GN hr2 rfl gN kN bN .nil pass0 (pa_cons (pv 0) (pa_cons (pe_lc (own := [("_law_other_here", 6), ("_law_spec_here", 7)]) (g := (gTup K 2 (gCons (gName 6) (gCons (gName 7) gNil)))) (tt := tYes) rfl nd (pi_list (pv 1)) (blkOk_by (N := nLNamed) (sc := defScope sLNamed) (by decide +kernel))
        (fun _ _ _ _ _ => (pg_tup rfl (pgs_cons (pg_name (i := 6) nd rfl (Or.inl rfl)) (pgs_cons (pg_name (i := 7) nd rfl (Or.inl rfl)) pgs_nil)))) (fun _ _ _ _ _ => pts_nil) (fun _ _ _ _ _ => (pv 6))) pa_nil))))
      (C8.pss_cut (ps_if (pt_cmpR op_gt (pe_callB call_len_seq (by rfl) gLen PySem.boot_len (pa_cons (pv 1) pa_nil)) pe_int (nomark _)) (pss_one (ps_set (i := 4) nd rfl (Or.inr rfl) (pv 3))) pss_nil)
      (pss_cons (ps_setLc (i := 5) (own := [("_law_row", 8)]) (g := (gName 8)) (tt := tYes) rfl nd rfl rfl (sw_true rfl rfl rfl rfl) (pi_list (pv 2)) (blkOk_by (N := nLNamed) (sc := defScope sLNamed) (by decide +kernel))
        (fun _ _ _ _ _ => (pg_name (i := 8) nd rfl (Or.inl rfl))) (fun _ _ _ _ _ => pts_nil) (fun _ _ _ _ _ => (pe_callTy (call_tuple_ofK (K := K) rfl) (by rfl) gTuple (by decide +kernel) (pa_cons (pe_lc (own := [("_law_part", 9)]) (g := (gName 9)) (tt := tYes) rfl nd (pi_tupK (K := K) rfl (pv 8)) (blkOk_by (N := nLNamed) (sc := scNm1) (by decide +kernel))
        (fun _ _ _ _ _ => (pg_name (i := 9) nd rfl (Or.inl rfl))) (fun _ _ _ _ _ => pts_nil) (fun _ _ _ _ _ => (pe_ifExp (pt_cmpR op_eq (pv 9) (pv 3) (nomark _)) (pv 4) (pv 9)))) pa_nil))))
      (pss_one (ps_ret (pe_tup (pa_cons (pe_lc (own := [("_law_one", 10), ("_law_spec_here", 7)]) (g := (gTup K 2 (gCons (gName 10) (gCons (gName 7) gNil)))) (tt := tYes) rfl nd (pi_list (pv 1)) (blkOk_by (N := nLNamed) (sc := defScope sLNamed) (by decide +kernel))
        (fun _ _ _ _ _ => (pg_tup rfl (pgs_cons (pg_name (i := 10) nd rfl (Or.inl rfl)) (pgs_cons (pg_name (i := 7) nd rfl (Or.inl rfl)) pgs_nil)))) (fun _ _ _ _ _ => pts_nil) (fun _ _ _ _ _ => (pe_tup (pa_cons (pe_ifExp (pt_cmpR op_eq (pv 10) (pv 3) (nomark _)) (pv 4) (pv 10)) (pa_cons (pv 7) pa_nil))))) (pa_cons (pv 5) pa_nil))))))))), ?_⟩
    obtain ⟨kv, hk, dk⟩ := id hkD
    obtain ⟨cv, hc, dc⟩ := id hcD
    have kvl : kv.length = ks.length := by rw [DpAll.len dk, List.length_map]
    have cvl : cv.length = cs.length := by rw [DpAll.len dc, List.length_map]
    -- the elder one
    refine ⟨_, rfl, _, rfl, p, kl, kv, rfl, nkp.symm, hp, SqL.of hk, fun G k => SqL.of (k _ _ nkp hk), (fun z => kne (by rw [z] at kvl; exact List.length_eq_zero_iff.mp kvl.symm)), (by omega), fun y H1 ym k1 hp1 => ?_⟩
    obtain ⟨j, ej⟩ := List.getElem?_of_mem ym
    obtain ⟨k, ekj, dkj⟩ := DpAll.map dk ej
    obtain ⟨q, sv, rfl, hq, _⟩ := knot_inv dkj
    have km : k ∈ ks := List.mem_of_getElem? ekj
    refine ⟨q, _, _, _, rfl, rfl, k1.tup hp hq, atI_nat (j := 0) rfl, ?_⟩
    obtain ⟨kv1, hk1, dk1⟩ := knots_kept hkD nkp k1 hp
    have kvl1 : kv1.length = ks.length := by rw [DpAll.len dk1, List.length_map]
    obtain ⟨ts, ets⟩ : ∃ ts, ks.map (·.1) = ts := ⟨_, rfl⟩
    have tsl : ts.length = ks.length := by rw [← ets, List.length_map]
    have tsok : ∀ t ∈ ts, NmOk t := fun t ht => by
      rw [← ets] at ht
      obtain ⟨k, hk, rfl⟩ := List.mem_map.mp ht
      exact web.b.nm k hk
    -- the names
    refine ⟨_, rfl, _, rfl, kl, rfl, ⟨_, SqL.of hk1⟩, fun tg htg0 => ?_⟩
    have ntg : tg ≠ p := hp1.ne htg0
    refine lc_list (xs := kv1) (fun j H' => H' tg = some (.lst (strL (ts.take j))) ∧ Same H1 H') ⟨by rw [List.take_zero]; exact upd_same, Same.past (Same.refl _) htg0⟩ (fun j H' _ e => SqL.of (e.2 _ _ hk1)) (fun j v H' ev e => ?_) (fun H2 e => ?_)
    · obtain ⟨hd, sm⟩ := e
      obtain ⟨k, ekj, dkj⟩ := DpAll.map dk1 ev
      obtain ⟨q, sv, rfl, hq, _⟩ := knot_inv dkj
      have jl := (List.getElem?_eq_some_iff.mp ekj).1
      refine ⟨q, _, rfl, Same.tup sm hq, rfl, _, _, rfl, _, _, rfl, rfl, rfl, ?_⟩
      refine yes_ite ?_
      refine ⟨_, rfl, _, hd, ?_, ?_, Same.past sm htg0⟩
      · unfold strL
        rw [List.length_map, List.length_take]
        exact Nat.lt_of_lt_of_le (show _ < 100 by omega) (by decide)
      · have et : ts[j]? = some k.1 := by rw [← ets, List.getElem?_map, ekj]; rfl
        rw [List.take_succ, et]
        unfold strL
        rw [List.map_append]
        exact upd_same
    obtain ⟨htg2, s2⟩ := e
    rw [List.take_of_length_le (by omega)] at htg2
    have hp2 := hp1.keep s2
    refine ⟨p, tg, ts, rfl, ntg, hp2, htg2, by omega, tsok, fun x H3 xok xnin k3 hp3 => ?_⟩
    have k03 := (k1.trans (Kept.same s2)).trans k3
    obtain ⟨kv3, hk3, dk3⟩ := knots_kept hkD nkp k03 hp
    have kvl3 : kv3.length = ks.length := by rw [DpAll.len dk3, List.length_map]
    obtain ⟨cv3, hc3, dc3⟩ := cords_kept hcD ncp k03 hp
    have cvl3 : cv3.length = cs.length := by rw [DpAll.len dc3, List.length_map]
    refine ⟨fun σ' G => ∃ y : Str, σ' = [some (.ref p), some (.ref kl), some (.ref cl0), some (.str k.1), some (.str y), none, none, none, none, none, none] ∧ NmOk y ∧ (y = k.1 ∨ y ∉ ks.map (·.1)) ∧ G = H3, ?_, ?_⟩
    · refine ⟨_, rfl, kl, _, rfl, .inl (SqL.of hk3), _, _, rfl, rfl, _, rfl, ite2 (fun _ => ?_) (fun _ => ?_)⟩
      · exact ⟨_, rfl, _, rfl, web.b.nm k km, .inl rfl, rfl⟩
      · exact ⟨_, rfl, xok, .inr (by rw [ets]; exact xnin), rfl⟩
    rintro σ' G ⟨y, rfl, yok, yor, rfl⟩
    have sc : ∀ v : V, (∃ s, v = .str s) ∨ (∃ i, v = .int i) → scal v (.str k.1) = true := fun v h => by
      rcases h with ⟨s, rfl⟩ | ⟨i, rfl⟩ <;> rfl
    have ren1 : ∀ s : Str, V.str (ren k.1 y s) = if V.str s = V.str k.1 then V.str y else V.str s := fun s => by
      unfold ren
      by_cases z : s = k.1
      · rw [if_pos z, if_pos (by rw [z])]
      · rw [if_neg z, if_neg (fun q => z (V.str.inj q))]
    -- the rows
    refine ⟨_, rfl, cl0, rfl, ⟨_, SqL.of hc3⟩, fun R hR => ?_⟩
    have nRp : R ≠ p := hp3.ne hR
    refine lc_list (xs := cv3) (fun j H' => ListD K H' R ((renW k.1 y (cs.take j)).map cordD) ∧ Same G H') ⟨⟨[], upd_same, .nil⟩, Same.past (Same.refl _) hR⟩ (fun j H' _ e => SqL.of (e.2 _ _ hc3)) (fun j v H' ev e => ?_) (fun H4 e => ?_)
    · obtain ⟨⟨pvs, hd, dps⟩, sm⟩ := e
      obtain ⟨c, ecj, dcj⟩ := DpAll.map dc3 ev
      obtain ⟨q1, rfl, hq1⟩ := cord_inv dcj
      have jl := (List.getElem?_eq_some_iff.mp ecj).1
      have stp : renW k.1 y (cs.take (j + 1)) = renW k.1 y (cs.take j) ++ [⟨ren k.1 y c.src, ren k.1 y c.goal, c.place, c.delay⟩] := by
        unfold renW
        rw [List.take_succ, ecj, List.map_append]
        rfl
      refine ⟨rfl, yes_ite ?_⟩
      obtain ⟨rv, hrv⟩ : ∃ rv, rv = [V.str c.src, V.str c.goal, V.int (c.place : Int), V.int (c.delay : Int)] := ⟨_, rfl⟩
      obtain ⟨rw', hrw⟩ : ∃ rw', rw' = [V.str (ren k.1 y c.src), V.str (ren k.1 y c.goal), V.int (c.place : Int), V.int (c.delay : Int)] := ⟨_, rfl⟩
      have item : ∀ (i : Nat) (v : V), rv[i]? = some v → ((∃ s, v = .str s) ∨ (∃ i, v = .int i)) ∧ rw'[i]? = some (if v = V.str k.1 then V.str y else v) := fun i v e => by
        rw [hrv] at e
        rw [hrw]
        rcases i with _ | _ | _ | _ | i
        · cases e
          exact ⟨.inl ⟨_, rfl⟩, congrArg some (ren1 _)⟩
        · cases e
          exact ⟨.inl ⟨_, rfl⟩, congrArg some (ren1 _)⟩
        · cases e
          exact ⟨.inr ⟨_, rfl⟩, congrArg some (if_neg (fun z => by cases z)).symm⟩
        · cases e
          exact ⟨.inr ⟨_, rfl⟩, congrArg some (if_neg (fun z => by cases z)).symm⟩
        · cases e
      have hq1' : SqT K H' q1 rv := by
        rw [hrv]
        exact Same.tup sm hq1
      have wl : rw'.length = 4 := by rw [hrw]; rfl
      have vl : rv.length = 4 := by rw [hrv]; rfl
      refine ⟨_, rfl, q1, rfl, ⟨_, hq1'⟩, fun D2 hD2 => ?_⟩
      refine lc_tup (xs := rv) (fun i F => F D2 = some (.lst (rw'.take i)) ∧ Same H' F) ⟨by rw [List.take_zero]; exact upd_same, Same.past (Same.refl _) hD2⟩ (fun i F _ e => Same.tup e.2 hq1') (fun i v F ev e => ?_) (fun F5 e => ?_)
      · obtain ⟨hd2, sm2⟩ := e
        obtain ⟨kind, ew⟩ := item i v ev
        have il := (List.getElem?_eq_some_iff.mp ev).1
        have fin : ∀ u : V, rw'[i]? = some u → ∃ acc, F D2 = some (.lst acc) ∧ acc.length < sizeLine ∧ upd F D2 (.lst (acc ++ [u])) D2 = some (.lst (rw'.take (i + 1))) ∧ Same H' (upd F D2 (.lst (acc ++ [u]))) := fun u eu => by
          refine ⟨_, hd2, ?_, ?_, Same.past sm2 hD2⟩
          · rw [List.length_take]
            exact Nat.lt_of_le_of_lt (show _ ≤ 4 by omega) (by decide)
          · rw [List.take_succ, eu]
            exact upd_same
        refine ⟨rfl, yes_ite ?_⟩
        refine ⟨_, rfl, _, rfl, sc v kind, _, rfl, ite2 (fun z => ?_) (fun z => ?_)⟩
        · have z := of_decide_eq_true z
          rw [if_pos z] at ew
          exact ⟨_, rfl, fin _ ew⟩
        · have z : v ≠ V.str k.1 := fun q => z (decide_eq_true q)
          rw [if_neg z] at ew
          exact ⟨_, rfl, fin _ ew⟩
      obtain ⟨hd5, s5⟩ := e
      rw [vl, List.take_of_length_le (by omega)] at hd5
      refine ⟨D2, rw', rfl, .inl ⟨SqL.of hd5, fun t ht => ?_⟩⟩
      have s6 := Same.new (o := .tup rw') (Same.refl F5) ht
      have ht6 : upd F5 t (.tup rw') t = some (.tup [V.str (ren k.1 y c.src), V.str (ren k.1 y c.goal), V.int (c.place : Int), V.int (c.delay : Int)]) := by
        rw [← hrw]
        exact upd_same
      generalize upd F5 t (.tup rw') = F6 at s6 ht6
      have u6 := s5.trans s6
      have kt : KT K F6 (upd F6 R (.lst (pvs ++ [V.ref t]))) := KT.lst (u6 _ _ hd)
      refine ⟨pvs, u6 _ _ hd, ?_, ⟨_, upd_same, ?_⟩, Same.past (sm.trans u6) hR⟩
      · have l1 := DpAll.len dps
        unfold renW at l1
        rw [List.length_map, List.length_map, List.length_take] at l1
        exact Nat.lt_of_lt_of_le (show _ < 100 by omega) (by decide)
      · rw [stp, List.map_append]
        have nl : noLists ((renW k.1 y (cs.take j)).map cordD ++ [(⟨ren k.1 y c.src, ren k.1 y c.goal, c.place, c.delay⟩ : Wr)].map cordD) = true := by
          rw [← List.map_append]
          exact noLists_map cord_noList _
        exact DpAll.kt kt nl (DpAll.snoc (cord_mk (c := ⟨ren k.1 y c.src, ren k.1 y c.goal, c.place, c.delay⟩) (.inl (.inl ht6))) (DpAll.keep u6 dps))
    obtain ⟨hRD, s4⟩ := e
    rw [cvl3, List.take_length] at hRD
    -- the nodes
    refine ⟨_, rfl, kl, rfl, ⟨_, SqL.of (s4 _ _ hk3)⟩, fun N hN => ?_⟩
    have nNp : N ≠ p := (hp3.keep s4).ne hN
    refine lc_list (xs := kv3) (fun j H' => ListD K H' N ((renK k.1 y (ks.take j)).map knotD) ∧ Same H4 H') ⟨⟨[], upd_same, .nil⟩, Same.past (Same.refl _) hN⟩ (fun j H' _ e => SqL.of ((s4.trans e.2) _ _ hk3)) (fun j v H' ev e => ?_) (fun H5 e => ?_)
    · obtain ⟨⟨pvs, hd, dps⟩, sm⟩ := e
      have tm := s4.trans sm
      obtain ⟨z, ezj, dzj⟩ := DpAll.map dk3 ev
      obtain ⟨q, sv, rfl, hq, hs⟩ := knot_inv dzj
      have jl := (List.getElem?_eq_some_iff.mp ezj).1
      have stp : renK k.1 y (ks.take (j + 1)) = renK k.1 y (ks.take j) ++ [(ren k.1 y z.1, z.2)] := by
        unfold renK
        rw [List.take_succ, ezj, List.map_append]
        rfl
      have fin : ∀ u : V, V.str (ren k.1 y z.1) = u → 2 ≤ sizeLine ∧ ∀ t, H' t = none → ∃ acc, upd H' t (.tup [u, sv]) N = some (.lst acc) ∧ acc.length < sizeLine ∧ ListD K (upd (upd H' t (.tup [u, sv])) N (.lst (acc ++ [V.ref t]))) N ((renK k.1 y (ks.take (j + 1))).map knotD) ∧ Same H4 (upd (upd H' t (.tup [u, sv])) N (.lst (acc ++ [V.ref t]))) := fun u eu => by
        subst eu
        refine ⟨by decide, fun t ht => ?_⟩
        have st := Same.new (o := .tup [V.str (ren k.1 y z.1), sv]) (Same.refl H') ht
        have ht1 : upd H' t (.tup [V.str (ren k.1 y z.1), sv]) t = some (.tup [V.str (ren k.1 y z.1), sv]) := upd_same
        generalize upd H' t (.tup [V.str (ren k.1 y z.1), sv]) = F5 at st ht1
        have kt : KT K F5 (upd F5 N (.lst (pvs ++ [V.ref t]))) := KT.lst (st _ _ hd)
        refine ⟨pvs, st _ _ hd, ?_, ⟨_, upd_same, ?_⟩, Same.past (sm.trans st) hN⟩
        · have l1 := DpAll.len dps
          unfold renK at l1
          rw [List.length_map, List.length_map, List.length_take] at l1
          exact Nat.lt_of_lt_of_le (show _ < 100 by omega) (by decide)
        · rw [stp, List.map_append]
          have nl : noLists ((renK k.1 y (ks.take j)).map knotD ++ [(ren k.1 y z.1, z.2)].map knotD) = true := by
            rw [← List.map_append]
            exact noLists_map knot_noList _
          exact DpAll.kt kt nl (DpAll.snoc (.tup (.inl (.inl ht1)) (.cons (.str _) (.cons (Dp.kt (KT.same (tm.trans st)) (spec_noList z.2) hs) .nil))) (DpAll.keep st dps))
      refine ⟨q, _, rfl, Same.tup tm hq, rfl, _, _, rfl, _, _, rfl, rfl, rfl, ?_⟩
      refine yes_ite ?_
      have e1 := ren1 z.1
      refine ⟨_, rfl, _, rfl, rfl, _, rfl, ite2 (fun w => ?_) (fun w => ?_)⟩
      · rw [if_pos (of_decide_eq_true w)] at e1
        exact ⟨_, rfl, _, rfl, fin _ e1⟩
      · rw [if_neg (fun q => w (decide_eq_true q))] at e1
        exact ⟨_, rfl, _, rfl, fin _ e1⟩
    obtain ⟨hND, s5⟩ := e
    rw [kvl3, List.take_length] at hND
    refine ⟨_, rfl, (by show 2 ≤ sizeLine; decide), fun t ht => ?_⟩
    have s6 := Same.new (o := .tup [V.ref N, V.ref R]) (Same.refl H5) ht
    have u := s4.trans (s5.trans s6)
    have lk : (renK k.1 y ks).length = ks.length := List.length_map _
    have lw : (renW k.1 y cs).length = cs.length := List.length_map _
    exact kk t N R _ _ _ (k03.trans (Kept.same u)) (hp3.keep u) (.inl (.inl upd_same)) (hND.keep s6) (hRD.keep (s5.trans s6)) (web.ren yok yor) (by rw [lk]; exact few) (by rw [lw]; exact fewc) nNp nRp
end
end Sw
namespace Sw
open PySem PySem.Spec PyProof.Rows L2
/-! ### one thing otherwise -/
theorem cut_lo {xs : List V} {n : Nat} (h : n ≤ xs.length) : cutV xs none (some (n : Int)) = xs.take n := by
  unfold cutV
  have e1 : HT.sIx xs.length 0 none = 0 := HT.sIx_none _ _
  have e2 : HT.sIx xs.length xs.length (some (n : Int)) = n := by
    show (if (n : Int) < 0 then ((n : Int) + (xs.length : Int)).toNat else min (n : Int).toNat xs.length) = _
    rw [if_neg (by omega), Int.toNat_natCast]
    omega
  rw [e1, e2, List.drop_zero, Nat.sub_zero]
theorem cut_hi {xs : List V} {n : Nat} (h : n ≤ xs.length) : cutV xs (some (n : Int)) none = xs.drop n := by
  unfold cutV
  have e1 : HT.sIx xs.length xs.length none = xs.length := HT.sIx_none _ _
  have e2 : HT.sIx xs.length 0 (some (n : Int)) = n := by
    show (if (n : Int) < 0 then ((n : Int) + (xs.length : Int)).toNat else min (n : Int).toNat xs.length) = _
    rw [if_neg (by omega), Int.toNat_natCast]
    omega
  rw [e1, e2, List.take_of_length_le]
  rw [List.length_drop]
  exact Nat.le_refl _
theorem tag_srt (s : Spec) : tagOf s = tagA (srt s) := by cases s <;> rfl
section
variable {P : Program} {w : World} {K : PySem.W.Frag} {mg : Str → Option Value} {base : Heap} {f f1 f2 f3 f4 f5 f6 f7 f8 f9 C CN CO CI CW CU dd : Addr} {cl : Srt → Addr} {fd fd1 fd2 fd3 fd4 fd5 fd6 fd7 fd8 fd9 : FuncData}
abbrev nLOther : List Str := ["_law_pot_here", "_law_knots", "_law_cords", "_law_way", "_law_at", "_law_tag", "_law_spec_here"]
theorem scLOther : FnScope nLOther ["_law_pot_here", "_law_knots", "_law_cords"] (defScope sLOther) := ⟨rfl, rfl, rfl, by decide +kernel, rfl, by decide +kernel, by decide +kernel⟩
theorem ok_other (F : FnP K "_law_other" sLOther f fd)
    (GT : FnOk P w K mg base CX0 1 f1 fd1 ["_law_pot_here", "_law_many"] spTake) (gT : mg "_law_take" = some (.ref f1)) (kT : PySem.W.keepIn K (.ref f1) = true) (bT : Binds K fd1 ["_law_pot_here", "_law_many"] [])
    (GN : FnOk P w K mg base CX0 2 f2 fd2 ["_law_pot_here", "_law_taken"] spLName) (gN : mg "_law_name" = some (.ref f2)) (kN : PySem.W.keepIn K (.ref f2) = true) (bN : Binds K fd2 ["_law_pot_here", "_law_taken"] [])
    (GX : FnOk P w K mg base CX0 2 f3 fd3 ["_law_pot_here", "_law_row"] (spExch K)) (gX : mg "_law_exchanged" = some (.ref f3)) (kX : PySem.W.keepIn K (.ref f3) = true) (bX : Binds K fd3 ["_law_pot_here", "_law_row"] [])
    (GNm : FnOk P w K mg base CX0 3 f4 fd4 ["_law_pot_here", "_law_knots", "_law_cords"] (spOth K)) (gNm : mg "_law_named" = some (.ref f4)) (kNm : PySem.W.keepIn K (.ref f4) = true) (bNm : Binds K fd4 ["_law_pot_here", "_law_knots", "_law_cords"] [])
    (gLen : mg "len" = none) : FnOk P w K mg base CX0 4 f fd ["_law_pot_here", "_law_knots", "_law_cords"] (spOth K) := by
  refine F.ok scLOther (fun vs H Q E h => ?_) (fun cdv A ou s H vs Q E hr h => ?_)
  · obtain ⟨p, kl, cl0, ks, cs, rfl, _⟩ := h
    rfl
  · obtain ⟨p, kl, cl0, ks, cs, rfl, hp, nkp, ncp, hkD, hcD, web, few, fewc, kne, lo, kk⟩ := h
    have nd := scLOther.nd
    have hu6 := hr.units
    have hr3 : Room 3 _ := hr
    have hr2 : Room 2 _ := hr.mono (by decide)
    have hr1 : Room 1 _ := hr.mono (by decide)
    refine ⟨_, PSs.nox (pss_cons (ps_set (i := 3) nd rfl (Or.inl rfl) (pe_call GT hr1 rfl gT kT bT .nil pass0 (pa_cons (pv 0) (pa_cons pe_int pa_nil))))
      (pss_cons (ps_if (pt_cmpR op_eq (pv 3) pe_int (nomark _)) (pss_one (ps_ret (pe_tup (pa_cons (pe_call GX hr2 rfl gX kX bX .nil pass0 (pa_cons (pv 0) (pa_cons (pv 1) pa_nil))) (pa_cons (pv 2) pa_nil))))) pss_nil)
      (pss_cons (ps_if (pt_cmpR op_eq (pv 3) pe_int (nomark _)) (pss_one (ps_ret (pe_tup (pa_cons (pv 1) (pa_cons (pe_call GX hr2 rfl gX kX bX .nil pass0 (pa_cons (pv 0) (pa_cons (pv 2) pa_nil))) pa_nil))))) pss_nil)
      (pss_cons (ps_if (pt_cmpR op_eq (pv 3) pe_int (nomark _)) (pss_one (ps_ret (pe_call GNm hr3 rfl gNm kNm bNm .nil pass0 (pa_cons (pv 0) (pa_cons (pv 1) (pa_cons (pv 2) pa_nil)))))) pss_nil)
      (C8.pss_cut (ps_if (PW.pt (pw_and (pt_cmpR op_eq (pv 3) pe_int (nomark _)) (pw_and1 (pt_cmpR (op_neD hu6) (pv 2) (pe_lst pa_nil) (nomark _))))) (pss_cons (ps_set (i := 4) nd rfl (Or.inl rfl) (pe_call GT hr1 rfl gT kT bT .nil pass0 (pa_cons (pv 0) (pa_cons (pe_callB call_len_seq (by rfl) gLen PySem.boot_len (pa_cons (pv 2) pa_nil)) pa_nil))))
      (pss_one (ps_ret (pe_tup (pa_cons (pv 1) (pa_cons (pe_op op_cat (pe_op op_cat (pe_slice sl_list (pv 2) po_none (po_some (pv 4))) (pe_lst (pa_cons (pe_op op_catA (pe_slice sl_tupA (pe_ix ix_list (pv 2) (pv 4) (fun _ _ => rfl)) po_none (po_some pe_int)) (pe_tup (pa_cons (pe_call GT hr1 rfl gT kT bT .nil pass0 (pa_cons (pv 0) (pa_cons pe_int pa_nil))) pa_nil))) pa_nil))) (pe_slice sl_list (pv 2) (po_some (pe_op op_add (pv 4) pe_int)) po_none)) pa_nil)))))) pss_nil)
      (pss_cons (ps_if (pt_cmpR op_eq (pv 3) pe_int (nomark _)) (pss_cons (ps_set (i := 4) nd rfl (Or.inl rfl) (pe_call GT hr1 rfl gT kT bT .nil pass0 (pa_cons (pv 0) (pa_cons (pe_callB call_len_seq (by rfl) gLen PySem.boot_len (pa_cons (pv 1) pa_nil)) pa_nil))))
      (pss_cons (ps_asg (pe_ix ix_list (pv 1) (pv 4) (fun _ _ => rfl)) (pg_tup rfl (pgs_cons (pg_name (i := 5) nd rfl (Or.inl rfl)) (pgs_cons (pg_name (i := 6) nd rfl (Or.inl rfl)) pgs_nil))))
      (C8.pss_cut (ps_if (pt_cmpR op_eq (pe_ix ix_tup (pv 6) pe_int (fun _ _ => rfl)) pe_str (nomark _)) (pss_one (ps_set (i := 6) nd rfl (Or.inl rfl) (pe_ix ix_list (pe_lst (pa_cons (pe_tup (pa_cons pe_str (pa_cons (pe_ix ix_tup (pv 6) pe_int (fun _ _ => rfl)) (pa_cons pe_int (pa_cons pe_int pa_nil))))) (pa_cons (pe_tup (pa_cons pe_str (pa_cons (pe_op op_add (pe_ix ix_tup (pv 6) pe_int (fun _ _ => rfl)) pe_int) (pa_cons pe_int (pa_cons pe_int pa_nil))))) (pa_cons (pe_tup (pa_cons pe_str (pa_cons pe_int pa_nil))) (pa_cons (pe_tup (pa_cons pe_str (pa_cons pe_int pa_nil))) pa_nil))))) (pe_call GT hr1 rfl gT kT bT .nil pass0 (pa_cons (pv 0) (pa_cons pe_int pa_nil))) (fun _ _ => rfl)))) pss_nil)
      (pss_one (ps_ret (pe_tup (pa_cons (pe_op op_cat (pe_op op_cat (pe_slice sl_list (pv 1) po_none (po_some (pv 4))) (pe_lst (pa_cons (pe_tup (pa_cons (pv 5) (pa_cons (pv 6) pa_nil))) pa_nil))) (pe_slice sl_list (pv 1) (po_some (pe_op op_add (pv 4) pe_int)) po_none)) (pa_cons (pv 2) pa_nil)))))))) pss_nil)
      (pss_cons (ps_if (pt_cmpR op_lt (pe_callB call_len_seq (by rfl) gLen PySem.boot_len (pa_cons (pv 1) pa_nil)) pe_int (nomark _)) (pss_one (ps_ret (pe_tup (pa_cons (pe_op op_cat (pv 1) (pe_lst (pa_cons (pe_tup (pa_cons (pe_call GN hr2 rfl gN kN bN .nil pass0 (pa_cons (pv 0) (pa_cons (pe_lc (own := [("_law_tag", 5), ("_law_spec_here", 6)]) (g := (gTup K 2 (gCons (gName 5) (gCons (gName 6) gNil)))) (tt := tYes) rfl nd (pi_list (pv 1)) (blkOk_by (N := nLOther) (sc := defScope sLOther) (by decide +kernel))
        (fun _ _ _ _ _ => (pg_tup rfl (pgs_cons (pg_name (i := 5) nd rfl (Or.inl rfl)) (pgs_cons (pg_name (i := 6) nd rfl (Or.inl rfl)) pgs_nil)))) (fun _ _ _ _ _ => pts_nil) (fun _ _ _ _ _ => (pv 5))) pa_nil))) (pa_cons (pe_tup (pa_cons pe_str pa_nil)) pa_nil))) pa_nil))) (pa_cons (pv 2) pa_nil))))) pss_nil)
      (pss_one (ps_ret (pe_tup (pa_cons (pv 1) (pa_cons (pv 2) pa_nil)))))))))))), ?_⟩
    obtain ⟨kv, hk, dk⟩ := id hkD
    obtain ⟨cv, hc, dc⟩ := id hcD
    have kvl : kv.length = ks.length := by rw [DpAll.len dk, List.length_map]
    have cvl : cv.length = cs.length := by rw [DpAll.len dc, List.length_map]
    have out : ∀ {G : Hp} {kl' cl' : Addr} {ks' : List Knot} {cs' : List Wr}, Kept p H G → PotAt G p → ListD K G kl' (ks'.map knotD) → ListD K G cl' (cs'.map cordD) → Web ks' cs' → ks'.length ≤ 24 → cs'.length ≤ 48 → kl' ≠ p → cl' ≠ p → 2 ≤ sizeLine ∧ ∀ t, G t = none → Q (.ref t) (upd G t (.tup [V.ref kl', V.ref cl'])) := fun {G kl' cl' ks' cs'} kG hpG a b c d e n1 n2 => ⟨by decide, fun t ht => by
      have st := Same.new (o := .tup [V.ref kl', V.ref cl']) (Same.refl G) ht
      exact kk t kl' cl' ks' cs' _ (kG.trans (Kept.same st)) (hpG.keep st) (.inl (.inl upd_same)) (a.keep st) (b.keep st) c d e n1 n2⟩
    have kn : ∀ {G : Hp}, Kept p H G → ListD K G kl (ks.map knotD) := fun {G} k => knots_kept hkD nkp k hp
    have cn : ∀ {G : Hp}, Kept p H G → ListD K G cl0 (cs.map cordD) := fun {G} k => cords_kept hcD ncp k hp
    -- the way
    refine ⟨_, rfl, p, _, rfl, hp, by decide, by decide, fun e1 H1 e10 e16 k1 hp1 => ?_⟩
    by_cases z0 : e1 = 0
    · subst z0
      refine ⟨_, rfl, rfl, _, rfl, iteT_ (decide_eq_true rfl) ?_⟩
      obtain ⟨kv1, hk1, dk1⟩ := kn k1
      have kvl1 : kv1.length = ks.length := by rw [DpAll.len dk1, List.length_map]
      refine ⟨_, rfl, _, rfl, p, kl, kv1, rfl, hp1, hk1, by omega, fun D ys H2 pm hD k2 hp2 hD2 => ⟨_, rfl, ?_⟩⟩
      have k12 := k1.trans k2
      obtain ⟨ks', pk, dks⟩ := dp_perm pm ks (DpAll.kt (KT.kept k2 hp1) (noLists_map knot_noList _) dk1)
      exact out k12 hp2 ⟨ys, hD2, dks⟩ (cn k12) (web.perm pk (.refl _)) (by rw [pk.length_eq]; exact few) fewc (hp1.ne hD) ncp
    have f0 : decide (V.int e1 = V.int 0) = false := decide_eq_false fun q => z0 (V.int.inj q)
    refine ⟨_, rfl, rfl, _, rfl, iteF_ f0 ?_⟩
    by_cases z1 : e1 = 1
    · subst z1
      refine ⟨_, rfl, rfl, _, rfl, iteT_ (decide_eq_true rfl) ?_⟩
      obtain ⟨cv1, hc1, dc1⟩ := cn k1
      have cvl1 : cv1.length = cs.length := by rw [DpAll.len dc1, List.length_map]
      refine ⟨_, rfl, _, rfl, _, rfl, p, cl0, cv1, rfl, hp1, hc1, by omega, fun D ys H2 pm hD k2 hp2 hD2 => ?_⟩
      have k12 := k1.trans k2
      obtain ⟨cs', pc, dcs⟩ := dp_perm pm cs (DpAll.kt (KT.kept k2 hp1) (noLists_map cord_noList _) dc1)
      exact out k12 hp2 (kn k12) ⟨ys, hD2, dcs⟩ (web.perm (.refl _) pc) few (by rw [pc.length_eq]; exact fewc) nkp (hp1.ne hD)
    have f1' : decide (V.int e1 = V.int 1) = false := decide_eq_false fun q => z1 (V.int.inj q)
    refine ⟨_, rfl, rfl, _, rfl, iteF_ f1' ?_⟩
    by_cases z2 : e1 = 2
    · subst z2
      refine ⟨_, rfl, rfl, _, rfl, iteT_ (decide_eq_true rfl) ?_⟩
      exact ⟨_, rfl, _, rfl, _, rfl, p, kl, cl0, ks, cs, rfl, hp1, nkp, ncp, kn k1, cn k1, web, few, fewc, kne, lo, fun t kl' cl' ks' cs' H' k => kk t kl' cl' ks' cs' H' (k1.trans k)⟩
    have f2' : decide (V.int e1 = V.int 2) = false := decide_eq_false fun q => z2 (V.int.inj q)
    refine ⟨_, rfl, rfl, _, rfl, iteF_ f2' ?_⟩
    refine ⟨fun σ' G => σ' = [some (.ref p), some (.ref kl), some (.ref cl0), some (.int e1), none, none, none] ∧ Same H1 G, ?_, ?_⟩
    · by_cases z3 : e1 = 3
      · subst z3
        refine ⟨_, rfl, rfl, _, rfl, iteT_ (decide_eq_true rfl) ?_⟩
        obtain ⟨cv1, hc1, dc1⟩ := cn k1
        have cvl1 : cv1.length = cs.length := by rw [DpAll.len dc1, List.length_map]
        have cok := web.cordsOk fewc
        refine ⟨_, rfl, (by show 0 ≤ sizeLine; decide), fun lz hlz => ?_⟩
        have s2 := Same.new (o := .lst []) (Same.refl H1) hlz
        have hz2 : upd H1 lz (.lst []) lz = some (.lst []) := upd_same
        generalize upd H1 lz (.lst []) = G2 at s2 hz2
        have hc2 := s2 _ _ hc1
        have hp2 := hp1.keep s2
        have k2 := k1.trans (Kept.same s2)
        refine ⟨.list (cs.map cordD), .list (([] : List Wr).map cordD), .lst (SqL.of hc2) (DpAll.keep s2 dc1), .lst (SqL.of hz2) .nil, cords_eqv cok.nm, cords_eqv (fun _ h => (List.not_mem_nil h).elim), _, rfl, ?_⟩
        rw [cordL_eqv]
        by_cases zc : cs = []
        · rw [decide_eq_true zc]
          exact iteF_ rfl ⟨rfl, s2⟩
        rw [decide_eq_false zc]
        refine iteT_ rfl ?_
        have cpos : 0 < cs.length := List.length_pos_iff.mpr zc
        refine ⟨_, rfl, _, rfl, cl0, _, rfl, .inl (SqL.of hc2), p, _, rfl, hp2, (by omega), (by omega), fun a G3 a0 a1 k3' hp3 => ?_⟩
        obtain ⟨m, rfl⟩ : ∃ m : Nat, a = (m : Int) := ⟨a.toNat, by omega⟩
        have ml : m < cs.length := by omega
        have k3 := k2.trans k3'
        obtain ⟨cv3, hc3, dc3⟩ := cn k3
        have cvl3 : cv3.length = cs.length := by rw [DpAll.len dc3, List.length_map]
        obtain ⟨c, ec, dcc⟩ := DpAll.map dc3 (List.getElem?_eq_getElem (i := m) (by omega))
        obtain ⟨q, eq, hq⟩ := cord_inv dcc
        have at1 : atI cv3 ((m : Nat) : Int) = some (.ref q) := by
          rw [← eq]
          exact atI_nat (List.getElem?_eq_getElem (by omega))
        refine ⟨_, rfl, _, rfl, _, rfl, _, rfl, cl0, _, rfl, SqL.of hc3, fun b1 hb1 => ?_⟩
        rw [cut_lo (by omega)]
        have s4 := Same.new (o := .lst (cv3.take m)) (Same.refl G3) hb1
        have hb4 : upd G3 b1 (.lst (cv3.take m)) b1 = some (.lst (cv3.take m)) := upd_same
        generalize upd G3 b1 (.lst (cv3.take m)) = G4 at s4 hb4
        have nb1 : b1 ≠ p := hp3.ne hb1
        have hp4 := hp3.keep s4
        refine ⟨_, rfl, _, rfl, cl0, _, _, _, rfl, rfl, SqL.of (s4 _ _ hc3), at1, _, rfl, q, _, rfl, Same.tup s4 hq, (fun z => absurd z.2 (by show ¬ (3 : Nat) = 4; decide)), fun _ u hu => ?_⟩
        have e6 : cutV [V.str c.src, V.str c.goal, V.int (c.place : Int), V.int (c.delay : Int)] none (some 3) = [V.str c.src, V.str c.goal, V.int (c.place : Int)] := rfl
        rw [e6]
        have s5 := Same.new (o := .tup [V.str c.src, V.str c.goal, V.int (c.place : Int)]) (Same.refl G4) hu
        have hu5 : upd G4 u (.tup [V.str c.src, V.str c.goal, V.int (c.place : Int)]) u = some (.tup [V.str c.src, V.str c.goal, V.int (c.place : Int)]) := upd_same
        generalize upd G4 u (.tup [V.str c.src, V.str c.goal, V.int (c.place : Int)]) = G5 at s5 hu5
        have nup : u ≠ p := hp4.ne hu
        have hp5 := hp4.keep s5
        refine ⟨_, rfl, p, _, rfl, hp5, by decide, by decide, fun d G6 d0 d4 k6 hp6 => ⟨(by show 1 ≤ sizeLine; decide), fun t ht => ?_⟩⟩
        obtain ⟨dz, rfl⟩ : ∃ dz : Nat, d = (dz : Int) := ⟨d.toNat, by omega⟩
        have hu6' := k6 _ _ nup hu5
        have hb6 := k6 _ _ nb1 (s5 _ _ hb4)
        have s7 := Same.new (o := .tup [V.int (dz : Int)]) (Same.refl G6) ht
        have ht7 : upd G6 t (.tup [V.int (dz : Int)]) t = some (.tup [V.int (dz : Int)]) := upd_same
        generalize upd G6 t (.tup [V.int (dz : Int)]) = G7 at s7 ht7
        refine ⟨u, t, _, _, rfl, rfl, .inl (.inl (s7 _ _ hu6')), .inl (.inl ht7), (by show 4 ≤ sizeLine; decide), (fun z => by cases z), (fun _ z => by cases z), fun _ _ r hr => ?_⟩
        have s8 := Same.new (o := .tup ([V.str c.src, V.str c.goal, V.int (c.place : Int)] ++ [V.int (dz : Int)])) (Same.refl G7) hr
        have hr8 : upd G7 r (.tup ([V.str c.src, V.str c.goal, V.int (c.place : Int)] ++ [V.int (dz : Int)])) r = some (.tup [V.str c.src, V.str c.goal, V.int (c.place : Int), V.int (dz : Int)]) := upd_same
        generalize upd G7 r (.tup ([V.str c.src, V.str c.goal, V.int (c.place : Int)] ++ [V.int (dz : Int)])) = G8 at s8 hr8
        refine ⟨(by show 1 ≤ sizeLine; decide), fun l hl => ?_⟩
        have s9 := Same.new (o := .lst [V.ref r]) (Same.refl G8) hl
        have hl9 : upd G8 l (.lst [V.ref r]) l = some (.lst [V.ref r]) := upd_same
        generalize upd G8 l (.lst [V.ref r]) = G9 at s9 hl9
        have u9 := s7.trans (s8.trans s9)
        have lt1 : (cv3.take m).length ≤ 48 := by
          rw [List.length_take]
          omega
        refine ⟨b1, l, _, _, rfl, rfl, u9 _ _ hb6, hl9, Nat.le_trans (Nat.add_le_add lt1 (Nat.le_refl 1)) (by decide), fun b2 hb2 => ?_⟩
        have s10 := Same.new (o := .lst (cv3.take m ++ [V.ref r])) (Same.refl G9) hb2
        have hb10 : upd G9 b2 (.lst (cv3.take m ++ [V.ref r])) b2 = some (.lst (cv3.take m ++ [V.ref r])) := upd_same
        generalize upd G9 b2 (.lst (cv3.take m ++ [V.ref r])) = G10 at s10 hb10
        have k10 : Kept p H G10 := ((k3.trans (Kept.same (s4.trans s5))).trans k6).trans (Kept.same (u9.trans s10))
        have hp10 := hp6.keep (u9.trans s10)
        have hc10 : G10 cl0 = some (.lst cv3) := (u9.trans s10) _ _ (k6 _ _ ncp ((s4.trans s5) _ _ hc3))
        refine ⟨_, rfl, _, rfl, _, _, rfl, rfl, _, rfl, cl0, _, rfl, SqL.of hc10, fun b3 hb3 => ?_⟩
        rw [show ((m : Nat) : Int) + 1 = ((m + 1 : Nat) : Int) by omega, cut_hi (by omega)]
        have s11 := Same.new (o := .lst (cv3.drop (m + 1))) (Same.refl G10) hb3
        have hb11 : upd G10 b3 (.lst (cv3.drop (m + 1))) b3 = some (.lst (cv3.drop (m + 1))) := upd_same
        generalize upd G10 b3 (.lst (cv3.drop (m + 1))) = G11 at s11 hb11
        have lt2 : (cv3.drop (m + 1)).length ≤ 48 := by
          rw [List.length_drop]
          omega
        refine ⟨b2, b3, _, _, rfl, rfl, s11 _ _ hb10, hb11, ?_, fun b4 hb4 => ?_⟩
        · rw [List.length_append]
          exact Nat.le_trans (Nat.add_le_add (Nat.add_le_add lt1 (Nat.le_refl 1)) lt2) (by decide)
        rw [set_split (by omega) (V.ref r)]
        have s12 := Same.new (o := .lst (cv3.set m (V.ref r))) (Same.refl G11) hb4
        have hb12 : upd G11 b4 (.lst (cv3.set m (V.ref r))) b4 = some (.lst (cv3.set m (V.ref r))) := upd_same
        have nb4 : b4 ≠ p := (hp10.keep s11).ne hb4
        generalize upd G11 b4 (.lst (cv3.set m (V.ref r))) = G12 at s12 hb12
        have u12 := s11.trans s12
        have k12 := k10.trans (Kept.same u12)
        obtain ⟨cv12, hc12, dc12⟩ := cn k12
        have ecv : cv12 = cv3 := by
          have := u12 _ _ hc10
          rw [hc12] at this
          cases this
          rfl
        subst ecv
        refine out k12 (hp10.keep u12) (kn k12) ⟨_, hb12, ?_⟩ (web.setDel ec (d := dz) (by omega)) few (by rw [List.length_set]; exact fewc) nkp nb4
        rw [List.map_set]
        exact DpAll.set (d := cordD ⟨c.src, c.goal, c.place, dz⟩) (cord_mk (c := ⟨c.src, c.goal, c.place, dz⟩) (.inl (.inl ((s9.trans (s10.trans u12)) _ _ hr8)))) dc12
      · have f3 : decide (V.int e1 = V.int 3) = false := decide_eq_false fun q => z3 (V.int.inj q)
        exact ⟨_, rfl, rfl, _, rfl, iteF_ f3 ⟨rfl, Same.refl _⟩⟩
    rintro σ' G ⟨rfl, sG⟩
    have kG := k1.trans (Kept.same sG)
    have hpG := hp1.keep sG
    by_cases z4 : e1 = 4
    · subst z4
      refine ⟨_, rfl, rfl, _, rfl, iteT_ (decide_eq_true rfl) ?_⟩
      obtain ⟨kv1, hk1, dk1⟩ := kn kG
      have kvl1 : kv1.length = ks.length := by rw [DpAll.len dk1, List.length_map]
      have kpos : 0 < ks.length := List.length_pos_iff.mpr kne
      refine ⟨_, rfl, _, rfl, kl, _, rfl, .inl (SqL.of hk1), p, _, rfl, hpG, (by omega), (by omega), fun a G3 a0 a1 k3' hp3 => ?_⟩
      obtain ⟨m, rfl⟩ : ∃ m : Nat, a = (m : Int) := ⟨a.toNat, by omega⟩
      have ml : m < ks.length := by omega
      have k3 := kG.trans k3'
      obtain ⟨kv3, hk3, dk3⟩ := kn k3
      have kvl3 : kv3.length = ks.length := by rw [DpAll.len dk3, List.length_map]
      obtain ⟨k, ek, dkk⟩ := DpAll.map dk3 (List.getElem?_eq_getElem (i := m) (by omega))
      obtain ⟨q, sv, eq, hq, hs⟩ := knot_inv dkk
      have at1 : atI kv3 ((m : Nat) : Int) = some (.ref q) := by
        rw [← eq]
        exact atI_nat (List.getElem?_eq_getElem (by omega))
      refine ⟨_, rfl, _, rfl, kl, _, _, _, rfl, rfl, SqL.of hk3, at1, q, _, rfl, hq, rfl, _, _, rfl, _, _, rfl, rfl, ?_⟩
      obtain ⟨k1', k2⟩ := k
      have km : (k1', k2) ∈ ks := List.mem_of_getElem? ek
      have sok := web.b.sp _ km
      have slo := lo _ km
      refine ⟨fun σ' F => ∃ (v' : V) (t : Spec), σ' = [some (.ref p), some (.ref kl), some (.ref cl0), some (.int 4), some (.int (m : Int)), some (.str k1'), some v'] ∧ SpecOk t ∧ infS k2 = infS t ∧ SpecAt K F v' t ∧ Kept p G3 F ∧ PotAt F p, ?_, ?_⟩
      · obtain ⟨q2, xs, rfl, hq2, sv2⟩ := hs.inv
        obtain ⟨r0, exs⟩ := sv2.tag
        have hq2' := hq2
        rw [exs] at hq2
        refine ⟨_, rfl, q2, _, _, _, rfl, rfl, hq2, atI_nat (j := 0) rfl, rfl, _, rfl, ite2 (fun g1 => ?_) (fun g1 => ?_)⟩
        · have e0 : srt k2 = .gain := tagA_inj ((tag_srt k2).symm.trans (V.str.inj (of_decide_eq_true g1)))
          cases k2 with
          | gain b l g =>
            obtain rfl := sv2
            obtain ⟨b0, b9, l2, g2⟩ := slo
            refine ⟨_, rfl, q2, _, _, _, rfl, rfl, hq2', atI_nat (j := 1) rfl, (by show 4 ≤ sizeLine; decide), fun a1 ha1 => ?_⟩
            have s7 := Same.new (o := .tup [V.str "gain", V.int b, V.int 0, V.int 0]) (Same.refl G3) ha1
            have h7 : upd G3 a1 (.tup [V.str "gain", V.int b, V.int 0, V.int 0]) a1 = some (.tup [V.str "gain", V.int b, V.int 0, V.int 0]) := upd_same
            generalize upd G3 a1 (.tup [V.str "gain", V.int b, V.int 0, V.int 0]) = G7 at s7 h7
            refine ⟨_, rfl, q2, _, _, _, rfl, rfl, Same.tup s7 hq2', atI_nat (j := 1) rfl, _, _, rfl, rfl, (by show 4 ≤ sizeLine; decide), fun a2 ha2 => ?_⟩
            have s8 := Same.new (o := .tup [V.str "gain", V.int (b + 1), V.int 1, V.int 1]) (Same.refl G7) ha2
            have h8 : upd G7 a2 (.tup [V.str "gain", V.int (b + 1), V.int 1, V.int 1]) a2 = some (.tup [V.str "gain", V.int (b + 1), V.int 1, V.int 1]) := upd_same
            generalize upd G7 a2 (.tup [V.str "gain", V.int (b + 1), V.int 1, V.int 1]) = G8 at s8 h8
            refine ⟨(by show 2 ≤ sizeLine; decide), fun a3 ha3 => ?_⟩
            have s9 := Same.new (o := .tup [V.str "up", V.int 1]) (Same.refl G8) ha3
            have h9 : upd G8 a3 (.tup [V.str "up", V.int 1]) a3 = some (.tup [V.str "up", V.int 1]) := upd_same
            generalize upd G8 a3 (.tup [V.str "up", V.int 1]) = G9 at s9 h9
            refine ⟨(by show 2 ≤ sizeLine; decide), fun a4 ha4 => ?_⟩
            have s10 := Same.new (o := .tup [V.str "mix", V.int 1]) (Same.refl G9) ha4
            have h10 : upd G9 a4 (.tup [V.str "mix", V.int 1]) a4 = some (.tup [V.str "mix", V.int 1]) := upd_same
            generalize upd G9 a4 (.tup [V.str "mix", V.int 1]) = G10 at s10 h10
            refine ⟨(by show 4 ≤ sizeLine; decide), fun ll hll => ?_⟩
            have s11 := Same.new (o := .lst [V.ref a1, V.ref a2, V.ref a3, V.ref a4]) (Same.refl G10) hll
            have h11 : upd G10 ll (.lst [V.ref a1, V.ref a2, V.ref a3, V.ref a4]) ll = some (.lst [V.ref a1, V.ref a2, V.ref a3, V.ref a4]) := upd_same
            have u10 := s7.trans (s8.trans (s9.trans s10))
            have nll : ll ≠ p := (hp3.keep u10).ne hll
            generalize upd G10 ll (.lst [V.ref a1, V.ref a2, V.ref a3, V.ref a4]) = G11 at s11 h11
            have u11 := u10.trans s11
            have hp11 := hp3.keep u11
            refine ⟨_, rfl, p, _, rfl, hp11, by decide, by decide, fun gg G12 gg0 gg1 k12 hp12 => ?_⟩
            have kt := KT.kept (K := K) k12 hp11
            have kE : Kept p G3 G12 := (Kept.same u11).trans k12
            have one : Dig 1 := ⟨by decide, by decide⟩
            have g4 : gg = 0 ∨ gg = 1 ∨ gg = 2 ∨ gg = 3 := by omega
            rcases g4 with rfl | rfl | rfl | rfl
            · exact ⟨ll, _, _, _, rfl, rfl, SqL.of (k12 _ _ nll h11), atI_nat (j := 0) rfl, _, .gain b 0 0, rfl, ⟨b0, by omega, by decide, by decide⟩, rfl, .tup (kt _ _ (.inl (.inl ((s8.trans (s9.trans (s10.trans s11))) _ _ h7)))) (.cons (.str _) (.cons (.int _) (.cons (.int _) (.cons (.int _) .nil)))), kE, hp12⟩
            · exact ⟨ll, _, _, _, rfl, rfl, SqL.of (k12 _ _ nll h11), atI_nat (j := 1) rfl, _, .gain (b + 1) 1 1, rfl, ⟨by omega, by omega, by decide, by decide⟩, rfl, .tup (kt _ _ (.inl (.inl ((s9.trans (s10.trans s11)) _ _ h8)))) (.cons (.str _) (.cons (.int _) (.cons (.int _) (.cons (.int _) .nil)))), kE, hp12⟩
            · exact ⟨ll, _, _, _, rfl, rfl, SqL.of (k12 _ _ nll h11), atI_nat (j := 2) rfl, _, .up 1, rfl, one, rfl, .tup (kt _ _ (.inl (.inl ((s10.trans s11) _ _ h9)))) (.cons (.str _) (.cons (.int _) .nil)), kE, hp12⟩
            · exact ⟨ll, _, _, _, rfl, rfl, SqL.of (k12 _ _ nll h11), atI_nat (j := 3) rfl, _, .mix 1, rfl, one, rfl, .tup (kt _ _ (.inl (.inl (s11 _ _ h10)))) (.cons (.str _) (.cons (.int _) .nil)), kE, hp12⟩
          | _ => cases e0
        · exact ⟨_, _, rfl, sok, rfl, hs, Kept.refl, hp3⟩
      rintro σ' F ⟨v', t, rfl, okt, hi, hsF, k4', hp4⟩
      have k4 := k3.trans k4'
      have hkF := k4' _ _ nkp hk3
      have dkF := DpAll.kt (KT.kept k4' hp3) (noLists_map knot_noList ks) dk3
      refine ⟨_, rfl, _, rfl, _, rfl, kl, _, rfl, SqL.of hkF, fun b1 hb1 => ?_⟩
      rw [cut_lo (by omega)]
      have s5 := Same.new (o := .lst (kv3.take m)) (Same.refl F) hb1
      have hb5 : upd F b1 (.lst (kv3.take m)) b1 = some (.lst (kv3.take m)) := upd_same
      generalize upd F b1 (.lst (kv3.take m)) = F5 at s5 hb5
      refine ⟨_, rfl, _, rfl, (by show 2 ≤ sizeLine; decide), fun r hr => ?_⟩
      have s6 := Same.new (o := .tup [V.str k1', v']) (Same.refl F5) hr
      have hr6 : upd F5 r (.tup [V.str k1', v']) r = some (.tup [V.str k1', v']) := upd_same
      generalize upd F5 r (.tup [V.str k1', v']) = F6 at s6 hr6
      refine ⟨(by show 1 ≤ sizeLine; decide), fun l hl => ?_⟩
      have s7 := Same.new (o := .lst [V.ref r]) (Same.refl F6) hl
      have hl7 : upd F6 l (.lst [V.ref r]) l = some (.lst [V.ref r]) := upd_same
      generalize upd F6 l (.lst [V.ref r]) = F7 at s7 hl7
      have lt1 : (kv3.take m).length ≤ 24 := by
        rw [List.length_take]
        omega
      refine ⟨b1, l, _, _, rfl, rfl, (s6.trans s7) _ _ hb5, hl7, Nat.le_trans (Nat.add_le_add lt1 (Nat.le_refl 1)) (by decide), fun b2 hb2 => ?_⟩
      have s8 := Same.new (o := .lst (kv3.take m ++ [V.ref r])) (Same.refl F7) hb2
      have hb8 : upd F7 b2 (.lst (kv3.take m ++ [V.ref r])) b2 = some (.lst (kv3.take m ++ [V.ref r])) := upd_same
      generalize upd F7 b2 (.lst (kv3.take m ++ [V.ref r])) = F8 at s8 hb8
      have u8 := s5.trans (s6.trans (s7.trans s8))
      refine ⟨_, rfl, _, rfl, _, _, rfl, rfl, _, rfl, kl, _, rfl, SqL.of (u8 _ _ hkF), fun b3 hb3 => ?_⟩
      rw [show ((m : Nat) : Int) + 1 = ((m + 1 : Nat) : Int) by omega, cut_hi (by omega)]
      have s9 := Same.new (o := .lst (kv3.drop (m + 1))) (Same.refl F8) hb3
      have hb9 : upd F8 b3 (.lst (kv3.drop (m + 1))) b3 = some (.lst (kv3.drop (m + 1))) := upd_same
      generalize upd F8 b3 (.lst (kv3.drop (m + 1))) = F9 at s9 hb9
      have lt2 : (kv3.drop (m + 1)).length ≤ 24 := by
        rw [List.length_drop]
        omega
      refine ⟨b2, b3, _, _, rfl, rfl, s9 _ _ hb8, hb9, ?_, fun b4 hb4 => ?_⟩
      · rw [List.length_append]
        exact Nat.le_trans (Nat.add_le_add (Nat.add_le_add lt1 (Nat.le_refl 1)) lt2) (by decide)
      rw [set_split (by omega) (V.ref r)]
      have s10 := Same.new (o := .lst (kv3.set m (V.ref r))) (Same.refl F9) hb4
      have hb10 : upd F9 b4 (.lst (kv3.set m (V.ref r))) b4 = some (.lst (kv3.set m (V.ref r))) := upd_same
      have nb4 : b4 ≠ p := ((hp4.keep u8).keep s9).ne hb4
      generalize upd F9 b4 (.lst (kv3.set m (V.ref r))) = F10 at s10 hb10
      have u10 := u8.trans (s9.trans s10)
      have k10 := k4.trans (Kept.same u10)
      have web' := web.setSpec ek okt hi
      refine ⟨_, rfl, out k10 (hp4.keep u10) ⟨_, hb10, ?_⟩ (cn k10) web' (by rw [List.length_set]; exact few) fewc nb4 ncp⟩
      rw [List.map_set]
      exact DpAll.set (d := knotD (k1', t)) (.tup (.inl (.inl ((s7.trans (s8.trans (s9.trans s10))) _ _ hr6))) (.cons (.str _) (.cons (Dp.kt (KT.same u10) (spec_noList t) hsF) .nil))) (DpAll.keep u10 dkF)
    have f4 : decide (V.int e1 = V.int 4) = false := decide_eq_false fun q => z4 (V.int.inj q)
    refine ⟨_, rfl, rfl, _, rfl, iteF_ f4 ?_⟩
    obtain ⟨kv1, hk1, dk1⟩ := kn kG
    have kvl1 : kv1.length = ks.length := by rw [DpAll.len dk1, List.length_map]
    refine ⟨_, rfl, kl, _, rfl, .inl (SqL.of hk1), _, _, rfl, rfl, _, rfl, ite2 (fun fewer => ?_) (fun _ => ?_)⟩
    · have fewer : ks.length < 24 := by
        have := of_decide_eq_true fewer
        omega
      obtain ⟨ts, ets⟩ : ∃ ts, ks.map (·.1) = ts := ⟨_, rfl⟩
      have tsl : ts.length = ks.length := by rw [← ets, List.length_map]
      have tsok : ∀ t ∈ ts, NmOk t := fun t ht => by
        rw [← ets] at ht
        obtain ⟨k, hk, rfl⟩ := List.mem_map.mp ht
        exact web.b.nm k hk
      refine ⟨_, rfl, _, rfl, _, rfl, kl, rfl, ⟨_, SqL.of hk1⟩, fun tg htg0 => ?_⟩
      have ntg : tg ≠ p := hpG.ne htg0
      refine lc_list (xs := kv1) (fun j H' => H' tg = some (.lst (strL (ts.take j))) ∧ Same G H') ⟨by rw [List.take_zero]; exact upd_same, Same.past (Same.refl _) htg0⟩ (fun j H' _ e => SqL.of (e.2 _ _ hk1)) (fun j v H' ev e => ?_) (fun G2 e => ?_)
      · obtain ⟨hd, sm⟩ := e
        obtain ⟨k, ekj, dkj⟩ := DpAll.map dk1 ev
        obtain ⟨q, sv, rfl, hq, _⟩ := knot_inv dkj
        have jl := (List.getElem?_eq_some_iff.mp ekj).1
        refine ⟨q, _, rfl, Same.tup sm hq, rfl, _, _, rfl, _, _, rfl, rfl, rfl, ?_⟩
        refine yes_ite ?_
        refine ⟨_, rfl, _, hd, ?_, ?_, Same.past sm htg0⟩
        · unfold strL
          rw [List.length_map, List.length_take]
          exact Nat.lt_of_lt_of_le (show _ < 100 by omega) (by decide)
        · have et : ts[j]? = some k.1 := by rw [← ets, List.getElem?_map, ekj]; rfl
          rw [List.take_succ, et]
          unfold strL
          rw [List.map_append]
          exact upd_same
      obtain ⟨htg2, s2⟩ := e
      rw [List.take_of_length_le (by omega)] at htg2
      have hp2 := hpG.keep s2
      refine ⟨p, tg, ts, rfl, ntg, hp2, htg2, by omega, tsok, fun x H3 xok xnin k3' hp3 => ?_⟩
      have k3 := (kG.trans (Kept.same s2)).trans k3'
      obtain ⟨kv3, hk3, dk3⟩ := kn k3
      have kvl3 : kv3.length = ks.length := by rw [DpAll.len dk3, List.length_map]
      refine ⟨(by show 1 ≤ sizeLine; decide), fun a1 ha1 => ?_⟩
      have s4 := Same.new (o := .tup [V.str "inlet"]) (Same.refl H3) ha1
      have h4 : upd H3 a1 (.tup [V.str "inlet"]) a1 = some (.tup [V.str "inlet"]) := upd_same
      generalize upd H3 a1 (.tup [V.str "inlet"]) = G4 at s4 h4
      refine ⟨(by show 2 ≤ sizeLine; decide), fun a2 ha2 => ?_⟩
      have s5 := Same.new (o := .tup [V.str x, V.ref a1]) (Same.refl G4) ha2
      have h5 : upd G4 a2 (.tup [V.str x, V.ref a1]) a2 = some (.tup [V.str x, V.ref a1]) := upd_same
      generalize upd G4 a2 (.tup [V.str x, V.ref a1]) = G5 at s5 h5
      refine ⟨(by show 1 ≤ sizeLine; decide), fun l hl => ?_⟩
      have s6 := Same.new (o := .lst [V.ref a2]) (Same.refl G5) hl
      have h6 : upd G5 l (.lst [V.ref a2]) l = some (.lst [V.ref a2]) := upd_same
      generalize upd G5 l (.lst [V.ref a2]) = G6 at s6 h6
      have u6 := s4.trans (s5.trans s6)
      refine ⟨kl, l, _, _, rfl, rfl, u6 _ _ hk3, h6, Nat.le_trans (show kv3.length + 1 ≤ 100 by omega) (by decide), fun b4 hb4 => ?_⟩
      have s7 := Same.new (o := .lst (kv3 ++ [V.ref a2])) (Same.refl G6) hb4
      have h7 : upd G6 b4 (.lst (kv3 ++ [V.ref a2])) b4 = some (.lst (kv3 ++ [V.ref a2])) := upd_same
      have nb4 : b4 ≠ p := (hp3.keep u6).ne hb4
      generalize upd G6 b4 (.lst (kv3 ++ [V.ref a2])) = G7 at s7 h7
      have u7 := u6.trans s7
      have k7 := k3.trans (Kept.same u7)
      refine ⟨_, rfl, out (ks' := ks ++ [(x, .inlet)]) k7 (hp3.keep u7) ⟨_, h7, ?_⟩ (cn k7) (web.more xok (by rw [ets]; exact xnin)) (by rw [List.length_append]; show ks.length + 1 ≤ 24; omega) fewc nb4 ncp⟩
      rw [List.map_append]
      exact DpAll.snoc (d := knotD (x, .inlet)) (.tup (.inl (.inl ((s6.trans s7) _ _ h5))) (.cons (.str _) (.cons (.tup (.inl (.inl ((s5.trans (s6.trans s7)) _ _ h4))) (.cons (.str _) .nil)) .nil))) (DpAll.keep u7 dk3)
    · exact ⟨_, rfl, _, rfl, out kG hpG (kn kG) (cn kG) web few fewc nkp ncp⟩
end
end Sw
namespace Sw
open PySem PySem.Spec PyProof.Rows L2
/-! ### right -/
def Brief (d : PyData) : Prop := PyData.canLay0 d = true ∧ d.depth ≤ 3 ∧ d.showable = true ∧ d.shown.length ≤ 300
/-- how a list of three truths is shown -/
theorem bools_repr (K : PySem.W.Frag) (a b c : Bool) : ∃ (D : PyData) (S : Str), (∀ (H' : Hp) (l : Addr), H' l = some (.lst [.bl a, .bl b, .bl c]) → Dp K H' (.ref l) D) ∧ SeqAt.shaped D = true ∧ D.showable = true ∧ D.shown.length ≤ sizeLine ∧ D.shown = S := by
  have bs : ∀ x : Bool, (PyData.shown (.bool x)).length ≤ 300 := fun x => by
    rw [PyData.shown]
    cases x <;> decide +kernel
  have fits : ∀ n : Nat, n ≤ (300 + 2) * 3 + 3 → n ≤ sizeLine := fun n h => Nat.le_trans h (by decide)
  have sz := shown_list (B := 300) (ds := [PyData.bool a, PyData.bool b, PyData.bool c]) fun z hz => by
    simp only [List.mem_cons, List.not_mem_nil, or_false] at hz
    rcases hz with rfl | rfl | rfl
    · exact bs a
    · exact bs b
    · exact bs c
  refine ⟨.list [.bool a, .bool b, .bool c], _, fun H' l hl => .lst (SqL.of hl) (.cons (.bl a) (.cons (.bl b) (.cons (.bl c) .nil))), ?_, ?_, fits _ sz, rfl⟩
  · unfold SeqAt.shaped
    simp only [PyData.canLay0, PyData.canLayAll0, PyData.depth, PyData.depthAll]
    exact Bool.and_eq_true_iff.mpr ⟨rfl, decide_eq_true (by decide)⟩
  · simp only [PyData.showable, PyData.showableAll]
    rfl
/-- what is no weave -/
def NoWv (K : PySem.W.Frag) (CW : Addr) (T : String) : Prop := PySem.W.kitOne K (.type T) (.ref CW) = some false ∧ PySem.W.notFirst K CW (.type T) = true ∧ PySem.W.mroIn K CW (.type T) = some false
def RwD (K : PySem.W.Frag) {CN CO CI : Addr} {cl : Srt → Addr} (dd : Addr) (c : ClsS K cl CN CO CI) (CW : Addr) (a : Addr) (y : V) (b : Bool) (H : Hp) : Prop := ∃ (ks : List Knot) (cs : List Wr), WvK K dd c CW H a ks cs ∧ ((∃ q ks' cs', y = .ref q ∧ WvK K dd c CW H q ks' cs' ∧ b = decide (ks = ks' ∧ cs = cs')) ∨ ∃ T, TyE H y (.type T) ∧ NoWv K CW T ∧ b = false)
theorem RwD.keep {K : PySem.W.Frag} {CN CO CI : Addr} {cl : Srt → Addr} {dd : Addr} {c : ClsS K cl CN CO CI} {CW a : Addr} {y : V} {b : Bool} {H H1 : Hp} (h : RwD K dd c CW a y b H) (s : Same H H1) : RwD K dd c CW a y b H1 := by
  obtain ⟨ks, cs, w, h⟩ := h
  refine ⟨ks, cs, w.keep s, ?_⟩
  rcases h with ⟨q, ks', cs', e, w', eb⟩ | ⟨T, ty, no, eb⟩
  · exact .inl ⟨q, ks', cs', e, w'.keep s, eb⟩
  · exact .inr ⟨T, TyE.ext ty s, no, eb⟩
def spRight (K : PySem.W.Frag) {CN CO CI : Addr} {cl : Srt → Addr} (dd : Addr) (c : ClsS K cl CN CO CI) (CW : Addr) : Sp := fun vs H Q _ => ∃ (a : Addr) (y : V) (b : Bool), vs = [.ref a, y, .bl b] ∧ RwD K dd c CW a y b H ∧ ∀ H', Same H H' → Q (.bl true) H'
theorem WvK.at {K : PySem.W.Frag} {CN CO CI : Addr} {cl : Srt → Addr} {dd : Addr} {c : ClsS K cl CN CO CI} {CW a : Addr} {ks : List Knot} {cs : List Wr} {H : Hp} (h : WvK K dd c CW H a ks cs) : ∃ dx fs, H a = some (.ins CW dx fs) := by
  obtain ⟨nm, ⟨dx, d, dl, ld, dv, hp, _⟩, _⟩ := h
  exact ⟨dx, _, hp⟩
/-- the same two weaves, either way about -/
theorem RwD.own {K : PySem.W.Frag} {CN CO CI : Addr} {cl : Srt → Addr} {dd : Addr} {c : ClsS K cl CN CO CI} {CW a : Addr} {y : V} {b : Bool} {H : Hp} (h : RwD K dd c CW a y b H) : DOwnB K CW (RW K dd c CW) (.ref a) y b H := by
  obtain ⟨ks, cs, w, h⟩ := h
  obtain ⟨dx, fs, ha⟩ := w.at
  rcases h with ⟨q, ks', cs', rfl, w', rfl⟩ | ⟨T, ty, ⟨n1, n2, n3⟩, rfl⟩
  · obtain ⟨dy, gs, hq⟩ := w'.at
    exact ⟨a, dx, fs, _, rfl, ha, .ins hq, Bool.or_eq_true_iff.mpr (.inl (beq_self_eq_true _)), ks, cs, w, .inl ⟨q, ks', cs', rfl, w', rfl⟩⟩
  · exact ⟨a, dx, fs, _, rfl, ha, ty, n2, ks, cs, w, .inr ⟨T, ty, n1, rfl⟩⟩
theorem RwD.back {K : PySem.W.Frag} {CN CO CI : Addr} {cl : Srt → Addr} {dd : Addr} {c : ClsS K cl CN CO CI} {CW a : Addr} {y : V} {b : Bool} {H : Hp} (h : RwD K dd c CW a y b H) : DOwnB K CW (RW K dd c CW) y (.ref a) b H ∨ DOthB K CW (RW K dd c CW) y (.ref a) b H := by
  obtain ⟨ks, cs, w, h⟩ := h
  obtain ⟨dx, fs, ha⟩ := w.at
  rcases h with ⟨q, ks', cs', rfl, w', rfl⟩ | ⟨T, ty, ⟨n1, n2, n3⟩, rfl⟩
  · obtain ⟨dy, gs, hq⟩ := w'.at
    refine .inl ⟨q, dy, gs, _, rfl, hq, .ins ha, Bool.or_eq_true_iff.mpr (.inl (beq_self_eq_true _)), ks', cs', w', .inl ⟨a, ks, cs, rfl, w, ?_⟩⟩
    exact decide_eq_decide.mpr ⟨fun h => ⟨h.1.symm, h.2.symm⟩, fun h => ⟨h.1.symm, h.2.symm⟩⟩
  · exact .inr ⟨a, dx, fs, T, rfl, ha, ty, n3, ks, cs, w, .inr ⟨T, ty, n1, rfl⟩⟩
section
variable {P : Program} {w : World} {K : PySem.W.Frag} {mg : Str → Option Value} {base : Heap} {f f1 f2 f3 f4 f5 f6 f7 f8 f9 f10 C CN CO CI CW CU dd : Addr} {cl : Srt → Addr} {fd fd10 fd1 fd2 fd3 fd4 fd5 fd6 fd7 fd8 fd9 : FuncData}
abbrev nLRight : List Str := ["_law_one", "_law_other_here", "_law_due", "_law_some"]
theorem scLRight : FnScope nLRight ["_law_one", "_law_other_here", "_law_due"] (defScope sLRight) := ⟨rfl, rfl, rfl, by decide +kernel, rfl, by decide +kernel, by decide +kernel⟩
theorem ok_right (c : ClsS K cl CN CO CI) (F : FnP K "_law_right" sLRight f fd) (hW : EqCB P w K mg base 6 (RW K dd c CW) CW)
    (hne : PySem.W.findIn K (.ref CW) "__ne__" = some (some (.builtin "object.__ne__"))) (hmo : PySem.W.mroIn K CW (.type "object") = some true)
    (gRepr : mg "repr" = none) : FnG P w K mg base CX0 8 f fd ["_law_one", "_law_other_here", "_law_due"] (spRight K dd c CW) := by
  refine F.okG scLRight (fun vs H Q E h => ?_) (fun cdv A ou s H vs Q E hr guard h => ?_)
  · obtain ⟨a, y, b, rfl, _⟩ := h
    rfl
  · obtain ⟨a, y, b, rfl, rel, kk⟩ := h
    have nd := scLRight.nd
    have hr7 : Room 7 _ := hr
    have hr6 : Room 6 _ := hr.mono (by decide)
    have un := hr.un
    have R : ∀ {X : Cx}, X.A = A.deeper (envOfC "_law_right" (defScope sLRight) s.heap.objs.size f cdv) → CallR X (.builtin "repr") (rReprD X.K) := fun {X} e => call_reprD (by rw [e]; exact guard) (by rw [e]; omega)
    refine ⟨_, PSs.nox (pss_cons (ps_set (i := 3) nd rfl (Or.inl rfl) (pe_lst (pa_cons (pe_cmpR (op_eqB (EqCB.rc hW) hr6) (pv 0) (pv 1) (nomark _)) (pa_cons (pe_cmpR (op_eqB (RcGB.or (EqCB.rc hW) (EqCB.rcO hW)) hr6) (pv 1) (pv 0) (nomark _)) (pa_cons (pe_cmpR (op_neB (EqCB.rcN hW hne hmo) hr7) (pv 0) (pv 1) (nomark _)) pa_nil)))))
      (pss_one (ps_ret (pe_cmpR op_eq (pe_callB (R rfl) (by rfl) gRepr boot_repr (pa_cons (pv 3) pa_nil)) (pe_callB (R rfl) (by rfl) gRepr boot_repr (pa_cons (pe_lst (pa_cons (pv 2) (pa_cons (pv 2) (pa_cons (pe_not (pv 2)) pa_nil)))) pa_nil)) (nomark _))))), ?_⟩
    obtain ⟨D, S, dpB, sh1, sh2, sh3, hS⟩ := bools_repr K b b (!b)
    refine ⟨_, rfl, _, rfl, b, rel.own, fun H1 s1 => ?_⟩
    have s1 : Same H H1 := s1
    refine ⟨_, rfl, _, rfl, b, (rel.keep s1).back, fun H2 s2 => ?_⟩
    have s2 : Same H1 H2 := s2
    refine ⟨_, rfl, _, rfl, b, (rel.keep (s1.trans s2)).own, fun H3 s3 => ?_⟩
    have s3 : Same H2 H3 := s3
    have t3 := s1.trans (s2.trans s3)
    refine ⟨(by show 3 ≤ sizeLine; decide), fun l hl => ?_⟩
    have s4 := Same.new (o := .lst [V.bl b, V.bl b, V.bl (!b)]) (Same.refl H3) hl
    have h4 : upd H3 l (.lst [V.bl b, V.bl b, V.bl (!b)]) l = some (.lst [V.bl b, V.bl b, V.bl (!b)]) := upd_same
    generalize upd H3 l (.lst [V.bl b, V.bl b, V.bl (!b)]) = H4 at s4 h4
    refine ⟨_, rfl, l, D, S, rfl, dpB _ _ h4, sh1, sh2, sh3, hS, ?_⟩
    refine ⟨_, rfl, _, rfl, _, rfl, _, rfl, (by show 3 ≤ sizeLine; decide), fun l5 h5 => ?_⟩
    have s5 := Same.new (o := .lst [V.bl b, V.bl b, V.bl (!b)]) (Same.refl H4) h5
    refine ⟨l5, D, S, rfl, dpB _ _ upd_same, sh1, sh2, sh3, hS, ?_⟩
    refine ⟨rfl, ?_⟩
    rw [decide_eq_true rfl]
    exact kk _ (t3.trans (s4.trans s5))
end
end Sw
namespace Sw
open PySem PySem.Spec PyProof.Rows L2
theorem web_shaped {ks : List Knot} {cs : List Wr} (hk : ∀ k ∈ ks, NmOk k.1) (hc : ∀ c ∈ cs, NmOk c.src ∧ NmOk c.goal) : SeqAt.shaped (webD ks cs) = true := by
  have kl : ∀ ks : List Knot, (∀ k ∈ ks, NmOk k.1) → PyData.canLayAll0 (ks.map knotD) = true ∧ PyData.depthAll (ks.map knotD) ≤ 3 := fun ks hk => by
    induction ks with
    | nil => exact ⟨rfl, by rw [List.map_nil, PyData.depthAll]; decide⟩
    | cons k r ih =>
      obtain ⟨i1, i2⟩ := ih fun c hc => hk c (List.mem_cons_of_mem _ hc)
      obtain ⟨c1, c2⟩ := knot_lay (k := k) (hk k List.mem_cons_self)
      rw [List.map_cons, PyData.canLayAll0, PyData.depthAll, i1, c1]
      exact ⟨rfl, by omega⟩
  obtain ⟨a1, a2⟩ := kl ks hk
  obtain ⟨b1, b2⟩ := layAll_cords hc
  unfold SeqAt.shaped webD
  rw [PyData.canLay0, PyData.canLayAll0, PyData.canLayAll0, PyData.canLayAll0, PyData.canLay0, PyData.canLay0, PyData.depth, PyData.depthAll, PyData.depthAll, PyData.depthAll, PyData.depth, PyData.depth, a1, b1]
  refine Bool.and_eq_true_iff.mpr ⟨rfl, decide_eq_true ?_⟩
  omega
section
variable {P : Program} {w : World} {K : PySem.W.Frag} {mg : Str → Option Value} {base : Heap} {f f1 f2 f3 f4 f5 f6 f7 f8 f9 f10 C CN CO CI CW CU dd : Addr} {cl : Srt → Addr} {fd fd10 fd1 fd2 fd3 fd4 fd5 fd6 fd7 fd8 fd9 : FuncData}
abbrev nLaw : List Str := ["_law_script", "_law_k", "_law_pot_here", "_law_knots", "_law_cords", "_law_web", "_law_others", "_law_other_here", "_law_thing"]
theorem scLaw : FnScope nLaw ["_law_script"] (defScope sLaw) := ⟨rfl, rfl, rfl, by decide +kernel, rfl, by decide +kernel, by decide +kernel⟩
def spLaw (K : PySem.W.Frag) : Sp := fun vs H Q _ => ∃ (a : Addr) (ns : List Int), vs = [.ref a] ∧ SqL K H a (ns.map V.int) ∧ ns.length ≤ 63 ∧ ∀ H', Q (.bl true) H'
theorem ok_law (c : ClsS K cl CN CO CI) (F : FnP K "law" sLaw f fd) (c0 : Cls K CW) (hW : EqCB P w K mg base 6 (RW K dd c CW) CW)
    (GDr : FnOk P w K mg base CX0 3 f1 fd1 ["_law_pot_here"] (spDrawn K)) (gDr : mg "_law_drawn" = some (.ref f1)) (kDr : PySem.W.keepIn K (.ref f1) = true) (bDr : Binds K fd1 ["_law_pot_here"] [])
    (GPo : FnOk P w K mg base CX0 1 f2 fd2 ["_law_script", "_law_k"] (spPot K)) (gPo : mg "_law_pot" = some (.ref f2)) (kPo : PySem.W.keepIn K (.ref f2) = true) (bPo : Binds K fd2 ["_law_script", "_law_k"] [])
    (MW : Mk K CW f4) (GW : FnOk P w K mg base CX0 5 f4 fd4 ["self", "nodes", "wires"] (spWvInit K (sorts cl dd c) CW)) (gW : mg "Weave" = some (.ref CW)) (bW : Binds K fd4 ["self", "nodes", "wires"] [])
    (GPa : FnG P w K mg base CX0 7 f5 fd5 ["_law_knots"] (spPairs K cl dd)) (gPa : mg "_law_pairs" = some (.ref f5)) (kPa : PySem.W.keepIn K (.ref f5) = true) (bPa : Binds K fd5 ["_law_knots"] [])
    (GOt : FnOk P w K mg base CX0 4 f6 fd6 ["_law_pot_here", "_law_knots", "_law_cords"] (spOth K)) (gOt : mg "_law_other" = some (.ref f6)) (kOt : PySem.W.keepIn K (.ref f6) = true) (bOt : Binds K fd6 ["_law_pot_here", "_law_knots", "_law_cords"] [])
    (GRi : FnG P w K mg base CX0 8 f7 fd7 ["_law_one", "_law_other_here", "_law_due"] (spRight K dd c CW)) (gRi : mg "_law_right" = some (.ref f7)) (kRi : PySem.W.keepIn K (.ref f7) = true) (bRi : Binds K fd7 ["_law_one", "_law_other_here", "_law_due"] [])
    (GPi : FnOk P w K mg base CX0 2 f8 fd8 ["_law_pot_here", "_law_some"] (spPick K)) (gPi : mg "_law_pick" = some (.ref f8)) (kPi : PySem.W.keepIn K (.ref f8) = true) (bPi : Binds K fd8 ["_law_pot_here", "_law_some"] [])
    (mS : Meth K CW "names" f9) (GS : FnOk P w K mg base CX0 1 f9 fd9 ["self"] (spWvNames K (sorts cl dd c) CW (fun _ => true))) (bS : Binds K fd9 ["self"] [])
    (GLn : FnOk P w K mg base CX0 1 f10 fd10 ["self"] (spWvLen K (sorts cl dd c) CW)) (sLn : PySem.W.findIn K (.ref CW) "__len__" = some (some (.ref f10))) (iLn : PySem.W.isFn K (.ref f10) = true) (bLn : Binds K fd10 ["self"] [])
    (noW : ∀ T ∈ (["NoneType", "int", "str", "tuple", "list", "dict", "bool"] : List String), NoWv K CW T)
    (gRange : mg "range" = none) (gMax : mg "max" = none) (gMin : mg "min" = none) (gLen : mg "len" = none) (gList : mg "list" = none) : FnG P w K mg base CX0 9 f fd ["_law_script"] (spLaw K) := by
  refine F.okG scLaw (fun vs H Q E h => ?_) (fun cdv A ou s H vs Q E hr guard h => ?_)
  · obtain ⟨a, ns, rfl, _⟩ := h
    rfl
  · obtain ⟨a, ns, rfl, hS, few, kk⟩ := h
    have nd := scLaw.nd
    have hu6 := hr.units
    have hr8 : Room 8 _ := hr
    have hr7 : Room 7 _ := hr.mono (by decide)
    have hr6 : Room 6 _ := hr.mono (by decide)
    have hr4 : Room 4 _ := hr.mono (by decide)
    have hr3 : Room 3 _ := hr.mono (by decide)
    have hr2 : Room 2 _ := hr.mono (by decide)
    have hr1 : Room 1 _ := hr.mono (by decide)
    have un := hr.un
    refine ⟨_, PSs.nox (pss_cons (ps_for PassesOwn.never rfl (pi_range1 rfl gRange (pa_cons (pe_callB (call_max2 rfl) (by rfl) gMax (by decide +kernel) (pa_cons pe_int (pa_cons (pe_callB (call_min2 rfl) (by rfl) gMin (by decide +kernel) (pa_cons pe_int (pa_cons (pe_callB call_len_seq (by rfl) gLen PySem.boot_len (pa_cons (pv 0) pa_nil)) pa_nil))) pa_nil))) pa_nil)) (pg_name (i := 1) nd rfl (Or.inl rfl))
      (pss_cons (ps_set (i := 2) nd rfl (Or.inl rfl) (pe_call GPo hr1 rfl gPo kPo bPo .nil pass0 (pa_cons (pv 0) (pa_cons (pv 1) pa_nil))))
      (pss_cons (ps_asg (pe_call GDr hr3 rfl gDr kDr bDr .nil pass0 (pa_cons (pv 2) pa_nil)) (pg_tup rfl (pgs_cons (pg_name (i := 3) nd rfl (Or.inl rfl)) (pgs_cons (pg_name (i := 4) nd rfl (Or.inl rfl)) pgs_nil))))
      (pss_cons (ps_set (i := 5) nd rfl (Or.inl rfl) (pe_make MW GW hr6 rfl gW bW .nil pass0 (pa_cons (pe_callG GPa hr7 guard rfl gPa kPa bPa .nil pass0 (pa_cons (pv 3) pa_nil)) (pa_cons (pe_callTy call_list_of (by rfl) gList PyProof.Rows.boot_list (pa_cons (pv 4) pa_nil)) pa_nil))))
      (pss_cons (ps_set (i := 6) nd rfl (Or.inl rfl) (pe_call GOt hr4 rfl gOt kOt bOt .nil pass0 (pa_cons (pv 2) (pa_cons (pv 3) (pa_cons (pv 4) pa_nil)))))
      (pss_cons (ps_set (i := 7) nd rfl (Or.inl rfl) (pe_make MW GW hr6 rfl gW bW .nil pass0 (pa_cons (pe_callG GPa hr7 guard rfl gPa kPa bPa .nil pass0 (pa_cons (pe_ix ix_tup (pv 6) pe_int (fun _ _ => rfl)) pa_nil)) (pa_cons (pe_callTy call_list_of (by rfl) gList PyProof.Rows.boot_list (pa_cons (pe_ix ix_tup (pv 6) pe_int (fun _ _ => rfl)) pa_nil)) pa_nil))))
      (pss_cons (ps_if (PW.pt (pw_or (pt_not (pt_val (pe_callG GRi hr8 guard rfl gRi kRi bRi .nil pass0 (pa_cons (pv 5) (pa_cons (pv 7) (pa_cons (pe_cmpR (op_eqD hu6) (pe_tup (pa_cons (pv 3) (pa_cons (pv 4) pa_nil))) (pv 6) (nomark _)) pa_nil)))))) (pw_or1 (pt_not (pt_val (pe_callG GRi hr8 guard rfl gRi kRi bRi .nil pass0 (pa_cons (pv 5) (pa_cons (pv 5) (pa_cons pe_bl pa_nil))))))))) pss_never pss_nil)
      (pss_cons (ps_if (pt_not (pt_val (pe_callG GRi hr8 guard rfl gRi kRi bRi .nil pass0 (pa_cons (pv 5) (pa_cons (pe_make MW GW hr6 rfl gW bW .nil pass0 (pa_cons (pe_callG GPa hr7 guard rfl gPa kPa bPa .nil pass0 (pa_cons (pv 3) pa_nil)) (pa_cons (pe_callTy call_list_of (by rfl) gList PyProof.Rows.boot_list (pa_cons (pv 4) pa_nil)) pa_nil))) (pa_cons pe_bl pa_nil)))))) pss_never pss_nil)
      (pss_cons (ps_set (i := 8) nd rfl (Or.inl rfl) (pe_call GPi hr2 rfl gPi kPi bPi .nil pass0 (pa_cons (pv 2) (pa_cons (pe_lst (pa_cons pe_non (pa_cons (pe_callB call_len_seq (by rfl) gLen PySem.boot_len (pa_cons (pv 3) pa_nil)) (pa_cons pe_str (pa_cons (pe_tup (pa_cons (pv 3) (pa_cons (pv 4) pa_nil))) (pa_cons (pe_lst (pa_cons (pv 3) (pa_cons (pv 4) pa_nil))) (pa_cons pe_dnewK (pa_cons (pe_meth0 (pv 5) c0 mS GS hr1 bS .nil pass0) (pa_cons pe_bl pa_nil))))))))) pa_nil))))
      (pss_one (ps_if (PW.pt (pw_or (pt_not (pt_val (pe_callG GRi hr8 guard rfl gRi kRi bRi .nil pass0 (pa_cons (pv 5) (pa_cons (pv 8) (pa_cons pe_bl pa_nil)))))) (pw_or (pt_cmpR op_ne (pe_callB (call_lenO GLn sLn iLn bLn hr2 pass0) (by rfl) gLen PySem.boot_len (pa_cons (pv 5) pa_nil)) (pe_callB call_len_seq (by rfl) gLen PySem.boot_len (pa_cons (pv 3) pa_nil)) (nomark _)) (pw_or1 (pt_cmpR op_ne (pe_callB (call_lenO GLn sLn iLn bLn hr2 pass0) (by rfl) gLen PySem.boot_len (pa_cons (pv 7) pa_nil)) (pe_callB call_len_seq (by rfl) gLen PySem.boot_len (pa_cons (pe_ix ix_tup (pv 6) pe_int (fun _ _ => rfl)) pa_nil)) (nomark _)))))) pss_never pss_nil)))))))))))
      (pss_one (ps_ret (pe_and (pe_cmpR (op_eqB (EqCB.rc hW) hr6) (pe_make MW GW hr6 rfl gW bW .nil pass0 (pa_cons (pe_lst pa_nil) (pa_cons (pe_lst pa_nil) pa_nil))) (pe_make MW GW hr6 rfl gW bW .nil pass0 (pa_cons (pe_lst pa_nil) (pa_cons (pe_lst pa_nil) pa_nil))) (nomark _)) (pe_one (pe_cmpR op_eq (pe_callB (call_lenO GLn sLn iLn bLn hr2 pass0) (by rfl) gLen PySem.boot_len (pa_cons (pe_make MW GW hr6 rfl gW bW .nil pass0 (pa_cons (pe_lst pa_nil) (pa_cons (pe_lst pa_nil) pa_nil))) pa_nil)) pe_int (nomark _))))))), ?_⟩
    refine ⟨_, rfl, a, _, rfl, .inl hS, _, _, rfl, _, _, rfl, _, rfl, ?_, ?_, ?_⟩
    · rw [List.length_map]
      split
      · split <;> omega
      · decide
    · rw [List.length_map]
      split
      · split <;> omega
      · decide
    obtain ⟨n, en, n8⟩ : ∃ n : Nat, (if (if ((ns.map V.int).length : Int) < 8 then ((ns.map V.int).length : Int) else 8) > 1 then (if ((ns.map V.int).length : Int) < 8 then ((ns.map V.int).length : Int) else 8) else 1).toNat = n ∧ n ≤ 63 := by
      refine ⟨_, rfl, ?_⟩
      rw [List.length_map]
      split
      · split <;> omega
      · decide
    rw [en]
    refine for_range (fun i σ G => ∃ (w1 w2 w3 w4 w5 w6 w7 w8 : Option V), σ = [some (.ref a), w1, w2, w3, w4, w5, w6, w7, w8] ∧ Same H G) ⟨_, _, _, _, _, _, _, _, rfl, Same.refl _⟩ ?_ ?_
    · rintro i σ G il ⟨w1, w2, w3, w4, w5, w6, w7, w8, rfl, sG⟩
      refine ⟨_, rfl, _, rfl, a, ns, i, congrArg (fun z => [V.ref a, V.int z]) (Int.zero_add _), sG.seq hS, by omega, fun p G1 fp s1 hp => ?_⟩
      refine ⟨_, rfl, p, rfl, hp, fun t0 kl cl0 ks cs H1 k1 hp1 ht0 hkD hcD fk fc nkc web few fewc kne lo => ⟨t0, _, rfl, ht0, rfl, _, _, rfl, _, _, rfl, rfl, ?_⟩⟩
      obtain ⟨kv, hk, dk⟩ := id hkD
      obtain ⟨cv, hc, dc⟩ := id hcD
      have kvl : kv.length = ks.length := by rw [DpAll.len dk, List.length_map]
      have sk : Same G H1 := Same.kept s1 fp k1
      have nkp : kl ≠ p := hp.ne fk
      have ncp : cl0 ≠ p := hp.ne fc
      refine ⟨_, rfl, kl, kv, ks, rfl, hk, dk, fun k hk => web.b.sp k hk, few, fun pl nm Hn H2 sn fpl s2 hpl aln => ?_⟩
      have t2 := sn.trans s2
      refine ⟨_, rfl, cl0, _, rfl, .inl (SqL.of (t2 _ _ hc)), fun rl hrl => ?_⟩
      have s3 := Same.new (o := .lst cv) (Same.refl H2) hrl
      have hr3' : (upd H2 rl (.lst cv)) rl = some (.lst cv) := upd_same
      obtain ⟨pv, hpl2, alp⟩ := hpl
      generalize upd H2 rl (.lst cv) = H3 at s3 hr3'
      have t3 : Same H1 H3 := t2.trans s3
      have n3 : Same Hn H3 := s2.trans s3
      have wok := web.ok few fewc (nmK_map aln)
      have cok := web.cordsOk fewc
      have alp3 : Al (PairAt K H3) pv nm := alp.imp fun v x ⟨q, e, h⟩ => ⟨q, e, Same.tup s3 h⟩
      have plB : PairsAt K H3 pl nm := ⟨pv, s3 _ _ hpl2, alp3⟩
      have rlB : WiresAt K H3 rl cs := ⟨cv, hr3', dp_wires (DpAll.keep t3 dc)⟩
      have alB : Al (NmK K cl dd H3) nm ks := aln.imp fun x k h => h.keep n3
      have ndB : Nodes (sorts cl dd c) nm H3 := nodes_of alB web.b.sp
      refine fun x dx nx ndx ne => ⟨H3, x, dx, pl, rl, nm, cs, rfl, Same.new (Same.new (Same.refl H3) ndx) (by rw [upd_ne ne.symm]; exact nx), nx, upd_same, plB, rlB, wok, ndB, fun G4 s4 wvn => ⟨rfl, ?_⟩⟩
      have t4 : Same H1 G4 := t3.trans s4
      have hp4 := hp1.keep t4
      have al4 : Al (NmK K cl dd G4) nm ks := alB.imp fun x k h => h.keep s4
      have hp3 : PotAt H3 p := hp1.keep t3
      have here : ∀ {G' : Hp}, Kept p G4 G' → WvAt K (sorts cl dd c) CW G' x nm cs ∧ Al (NmK K cl dd G') nm ks ∧ ListD K G' kl (ks.map knotD) ∧ ListD K G' cl0 (cs.map cordD) := fun {G'} k => by
        have kt := KT.kept (K := K) k hp4
        have al' : Al (NmK K cl dd G') nm ks := al4.imp fun x k' h => ⟨h.1, h.2.1, h.2.2.kept k hp4⟩
        exact ⟨wvn.to nx (fun b o n e => k b o (hp3.ne n) e) kt (nodes_of al' web.b.sp), al', (hkD.keep t4).kt (noLists_map knot_noList _) kt (fun o e => k _ _ nkp e), (hcD.keep t4).kt (noLists_map cord_noList _) kt (fun o e => k _ _ ncp e)⟩
      have wv1 : ∀ {G' : Hp}, Kept p G4 G' → WvK K dd c CW G' x ks cs := fun {G'} k => ⟨nm, (here k).1, (here k).2.1, wok, cok⟩
      obtain ⟨_, _, hkD4, hcD4⟩ := here (G' := G4) Kept.refl
      -- the others
      refine ⟨_, rfl, _, rfl, _, rfl, p, kl, cl0, ks, cs, rfl, hp4, nkp, ncp, hkD4, hcD4, web, few, fewc, kne, lo, fun t5 kl2 cl2 ks2 cs2 G5 k5 hp5 ht5 hkD2 hcD2 web2 few2 fewc2 nk2 nc2 => ?_⟩
      obtain ⟨kv2, hk2, dk2⟩ := id hkD2
      obtain ⟨cv2, hc2, dc2⟩ := id hcD2
      have kvl2 : kv2.length = ks2.length := by rw [DpAll.len dk2, List.length_map]
      refine ⟨_, rfl, t5, _, _, _, rfl, rfl, ht5, atI_nat (j := 0) rfl, kl2, kv2, ks2, rfl, hk2, dk2, fun k hk => web2.b.sp k hk, few2, fun pl2 nm2 Hn2 H6 sn2 fpl2 s6 hpl2' aln2 => ?_⟩
      have t6 := sn2.trans s6
      refine ⟨_, rfl, t5, _, _, _, rfl, rfl, Same.tup t6 ht5, atI_nat (j := 1) rfl, cl2, _, rfl, .inl (SqL.of (t6 _ _ hc2)), fun rl2 hrl2 => ?_⟩
      have s7 := Same.new (o := .lst cv2) (Same.refl H6) hrl2
      have hr7' : (upd H6 rl2 (.lst cv2)) rl2 = some (.lst cv2) := upd_same
      obtain ⟨pv2, hpl3, alp2⟩ := hpl2'
      generalize upd H6 rl2 (.lst cv2) = H7 at s7 hr7'
      have t7 : Same G5 H7 := t6.trans s7
      have n7 : Same Hn2 H7 := s6.trans s7
      have wok2 := web2.ok few2 fewc2 (nmK_map aln2)
      have cok2 := web2.cordsOk fewc2
      have alp7 : Al (PairAt K H7) pv2 nm2 := alp2.imp fun v x ⟨q, e, h⟩ => ⟨q, e, Same.tup s7 h⟩
      have plB2 : PairsAt K H7 pl2 nm2 := ⟨pv2, s7 _ _ hpl3, alp7⟩
      have rlB2 : WiresAt K H7 rl2 cs2 := ⟨cv2, hr7', dp_wires (DpAll.keep t7 dc2)⟩
      have alB2 : Al (NmK K cl dd H7) nm2 ks2 := aln2.imp fun x k h => h.keep n7
      have ndB2 : Nodes (sorts cl dd c) nm2 H7 := nodes_of alB2 web2.b.sp
      refine fun x2 dx2 nx2 ndx2 ne2 => ⟨H7, x2, dx2, pl2, rl2, nm2, cs2, rfl, Same.new (Same.new (Same.refl H7) ndx2) (by rw [upd_ne ne2.symm]; exact nx2), nx2, upd_same, plB2, rlB2, wok2, ndB2, fun G8 s8 wvn2 => ⟨rfl, ?_⟩⟩
      have t8 : Same G5 G8 := t7.trans s8
      have k8 : Kept p G4 G8 := k5.trans (Kept.same t8)
      have hp8 := hp5.keep t8
      have hp7 : PotAt H7 p := hp5.keep t7
      have al8 : Al (NmK K cl dd G8) nm2 ks2 := alB2.imp fun x k h => h.keep s8
      have wv2 : ∀ {G' : Hp}, Kept p G8 G' → WvK K dd c CW G' x2 ks2 cs2 := fun {G'} k => by
        have kt := KT.kept (K := K) k hp8
        have al' : Al (NmK K cl dd G') nm2 ks2 := al8.imp fun x k' h => ⟨h.1, h.2.1, h.2.2.kept k hp8⟩
        exact ⟨nm2, wvn2.to nx2 (fun b o n e => k b o (hp7.ne n) e) kt (nodes_of al' web2.b.sp), al', wok2, cok2⟩
      -- the first two
      obtain ⟨_, _, hkD8, hcD8⟩ := here k8
      obtain ⟨kv8, hk8, dk8⟩ := id hkD8
      obtain ⟨cv8, hc8, dc8⟩ := id hcD8
      refine ⟨_, rfl, _, rfl, _, rfl, _, rfl, (by show 2 ≤ sizeLine; decide), fun t9 ht9 => ?_⟩
      have s9 := Same.new (o := .tup [V.ref kl, V.ref cl0]) (Same.refl G8) ht9
      have h9 : upd G8 t9 (.tup [V.ref kl, V.ref cl0]) t9 = some (.tup [V.ref kl, V.ref cl0]) := upd_same
      generalize upd G8 t9 (.tup [V.ref kl, V.ref cl0]) = G9 at s9 h9
      have u9 := t8.trans s9
      have k9 := k8.trans (Kept.same s9)
      have sh1 : SeqAt.shaped (webD ks cs) = true := web_shaped web.b.nm cok.nm
      have sh2 : SeqAt.shaped (webD ks2 cs2) = true := web_shaped web2.b.nm cok2.nm
      refine ⟨_, rfl, webD ks cs, webD ks2 cs2, .tup (.inl (.inl h9)) (.cons (.lst (SqL.of (s9 _ _ hk8)) (DpAll.keep s9 dk8)) (.cons (.lst (SqL.of (s9 _ _ hc8)) (DpAll.keep s9 dc8)) .nil)), .tup (Same.tup u9 ht5) (.cons (.lst (SqL.of (u9 _ _ hk2)) (DpAll.keep u9 dk2)) (.cons (.lst (SqL.of (u9 _ _ hc2)) (DpAll.keep u9 dc2)) .nil)), sh1, sh2, ?_⟩
      refine ⟨x, .ref x2, _, rfl, ⟨ks, cs, wv1 k9, .inl ⟨x2, ks2, cs2, rfl, wv2 (Kept.same s9), web_eqv _ _ _ _⟩⟩, fun G10 s10 => ⟨_, rfl, iteF_ rfl ?_⟩⟩
      have k10 := k9.trans (Kept.same s10)
      refine ⟨_, rfl, _, rfl, x, .ref x, true, rfl, ⟨ks, cs, wv1 k10, .inl ⟨x, ks, cs, rfl, wv1 k10, (decide_eq_true ⟨rfl, rfl⟩).symm⟩⟩, fun G11 s11 => ⟨_, rfl, iteF_ rfl ?_⟩⟩
      have k11 := k10.trans (Kept.same s11)
      have u11 := u9.trans (s10.trans s11)
      have hp11 := hp5.keep u11
      -- made once more
      obtain ⟨wv11, _, hkD11, hcD11⟩ := here k11
      obtain ⟨kv11, hk11, dk11⟩ := id hkD11
      obtain ⟨cv11, hc11, dc11⟩ := id hcD11
      have kvl11 : kv11.length = ks.length := by rw [DpAll.len dk11, List.length_map]
      refine ⟨_, rfl, _, rfl, kl, kv11, ks, rfl, hk11, dk11, fun k hk => web.b.sp k hk, few, fun pl3 nm3 Hn3 H12 sn3 fpl3 s12 hpl3' aln3 => ?_⟩
      have t12 := sn3.trans s12
      refine ⟨_, rfl, cl0, _, rfl, .inl (SqL.of (t12 _ _ hc11)), fun rl3 hrl3 => ?_⟩
      have s13 := Same.new (o := .lst cv11) (Same.refl H12) hrl3
      have hr13 : (upd H12 rl3 (.lst cv11)) rl3 = some (.lst cv11) := upd_same
      obtain ⟨pv3, hpl4, alp3'⟩ := hpl3'
      generalize upd H12 rl3 (.lst cv11) = H13 at s13 hr13
      have t13 : Same G11 H13 := t12.trans s13
      have n13 : Same Hn3 H13 := s12.trans s13
      have wok3 := web.ok few fewc (nmK_map aln3)
      have alp13 : Al (PairAt K H13) pv3 nm3 := alp3'.imp fun v x ⟨q, e, h⟩ => ⟨q, e, Same.tup s13 h⟩
      have plB3 : PairsAt K H13 pl3 nm3 := ⟨pv3, s13 _ _ hpl4, alp13⟩
      have rlB3 : WiresAt K H13 rl3 cs := ⟨cv11, hr13, dp_wires (DpAll.keep t13 dc11)⟩
      have alB3 : Al (NmK K cl dd H13) nm3 ks := aln3.imp fun x k h => h.keep n13
      have ndB3 : Nodes (sorts cl dd c) nm3 H13 := nodes_of alB3 web.b.sp
      refine fun x3 dx3 nx3 ndx3 ne3 => ⟨H13, x3, dx3, pl3, rl3, nm3, cs, rfl, Same.new (Same.new (Same.refl H13) ndx3) (by rw [upd_ne ne3.symm]; exact nx3), nx3, upd_same, plB3, rlB3, wok3, ndB3, fun G14 s14 wvn3 => ⟨rfl, ?_⟩⟩
      have t14 : Same G11 G14 := t13.trans s14
      have k14 := k11.trans (Kept.same t14)
      have wv3 : WvK K dd c CW G14 x3 ks cs := ⟨nm3, wvn3.at, alB3.imp (fun x k h => h.keep s14), wok3, cok⟩
      refine ⟨x, .ref x3, true, rfl, ⟨ks, cs, wv1 k14, .inl ⟨x3, ks, cs, rfl, wv3, (decide_eq_true ⟨rfl, rfl⟩).symm⟩⟩, fun G15 s15 => ⟨_, rfl, iteF_ rfl ?_⟩⟩
      have k15 := k14.trans (Kept.same s15)
      have hp15 := hp11.keep (t14.trans s15)
      -- a thing that is none
      obtain ⟨wv15, _, hkD15, hcD15⟩ := here k15
      obtain ⟨kv15, hk15, dk15⟩ := id hkD15
      have kvl15 : kv15.length = ks.length := by rw [DpAll.len dk15, List.length_map]
      obtain ⟨dx15, _, _, _, _, hx15, _⟩ := id wv15
      refine ⟨_, rfl, _, rfl, kl, _, rfl, .inl (SqL.of hk15), _, rfl, _, rfl, (by show 2 ≤ sizeLine; decide), fun ta hta => ?_⟩
      have s16 := Same.new (o := .tup [V.ref kl, V.ref cl0]) (Same.refl G15) hta
      have h16 : upd G15 ta (.tup [V.ref kl, V.ref cl0]) ta = some (.tup [V.ref kl, V.ref cl0]) := upd_same
      have nap : ta ≠ p := hp15.ne hta
      generalize upd G15 ta (.tup [V.ref kl, V.ref cl0]) = G16 at s16 h16
      refine ⟨_, rfl, _, rfl, (by show 2 ≤ sizeLine; decide), fun la hla => ?_⟩
      have s17 := Same.new (o := .lst [V.ref kl, V.ref cl0]) (Same.refl G16) hla
      have h17 : upd G16 la (.lst [V.ref kl, V.ref cl0]) la = some (.lst [V.ref kl, V.ref cl0]) := upd_same
      have nbp : la ≠ p := (hp15.keep s16).ne hla
      generalize upd G16 la (.lst [V.ref kl, V.ref cl0]) = G17 at s17 h17
      refine fun da hda => ?_
      have s18 := Same.new (o := .dK []) (Same.refl G17) hda
      have h18 : upd G17 da (.dK []) da = some (.dK []) := upd_same
      have ncp' : da ≠ p := (hp15.keep (s16.trans s17)).ne hda
      generalize upd G17 da (.dK []) = G18 at s18 h18
      have u18 := s16.trans (s17.trans s18)
      refine ⟨_, rfl, x, dx15, _, rfl, u18 _ _ hx15, rfl, x, nm, cs, rfl, wv15.keep u18, wok.nms, fun nl G19 s19 fnl hnl => ?_⟩
      have nnp : nl ≠ p := (hp15.keep u18).ne fnl
      refine ⟨(by show 8 ≤ sizeLine; decide), fun ll hll => ?_⟩
      obtain ⟨L, hL⟩ : ∃ L, L = [V.non, .int (kv15.length : Int), .str "", .ref ta, .ref la, .ref da, .ref nl, .bl true] := ⟨_, rfl⟩
      have s20 := Same.new (o := .lst L) (Same.refl G19) hll
      have h20 : upd G19 ll (.lst L) ll = some (.lst L) := upd_same
      rw [← hL]
      have u19 := u18.trans s19
      have nlp : ll ≠ p := (hp15.keep u19).ne hll
      generalize upd G19 ll (.lst L) = G20 at s20 h20
      have u20 := u19.trans s20
      refine ⟨p, ll, L, rfl, nlp.symm, hp15.keep u20, SqL.of h20, fun G k => SqL.of (k _ _ nlp h20), (by rw [hL]; simp), (by rw [hL]; show 8 < 1073741824; decide), fun y G21 ym k21' hp21 => ?_⟩
      have k21 := (k15.trans (Kept.same u20)).trans k21'
      obtain ⟨T, ty, nw⟩ : ∃ T, TyE G21 y (.type T) ∧ NoWv K CW T := by
        rw [hL] at ym
        simp only [List.mem_cons, List.not_mem_nil, or_false] at ym
        rcases ym with rfl | rfl | rfl | rfl | rfl | rfl | rfl | rfl
        · exact ⟨_, .non, noW _ (by decide)⟩
        · exact ⟨_, .int _, noW _ (by decide)⟩
        · exact ⟨_, .str _, noW _ (by decide)⟩
        · exact ⟨_, .tup (k21' _ _ nap ((s17.trans (s18.trans (s19.trans s20))) _ _ h16)), noW _ (by decide)⟩
        · exact ⟨_, .lst (k21' _ _ nbp ((s18.trans (s19.trans s20)) _ _ h17)), noW _ (by decide)⟩
        · exact ⟨_, .dK (k21' _ _ ncp' ((s19.trans s20) _ _ h18)), noW _ (by decide)⟩
        · exact ⟨_, .lst (k21' _ _ nnp (s20 _ _ hnl)), noW _ (by decide)⟩
        · exact ⟨_, .bl _, noW _ (by decide)⟩
      refine ⟨_, rfl, _, rfl, x, y, false, rfl, ⟨ks, cs, wv1 k21, .inr ⟨T, ty, nw, rfl⟩⟩, fun G22 s22 => ⟨_, rfl, iteF_ rfl ?_⟩⟩
      have k22 := k21.trans (Kept.same s22)
      -- how long they are
      obtain ⟨wv22, al22, hkD22, _⟩ := here k22
      obtain ⟨kv22, hk22, dk22⟩ := id hkD22
      have kvl22 : kv22.length = ks.length := by rw [DpAll.len dk22, List.length_map]
      obtain ⟨dx22, _, _, _, _, hx22, _⟩ := id wv22
      have nml : nm.length = ks.length := al22.len
      refine ⟨_, rfl, x, dx22, _, rfl, hx22, x, nm, cs, rfl, wv22, wok.nms, ⟨nm.length, rfl, by omega, ?_⟩⟩
      refine ⟨_, rfl, kl, _, rfl, .inl (SqL.of hk22), rfl, _, rfl, iteF_ ?_ ?_⟩
      · rw [nml, kvl22, decide_eq_true rfl]
        rfl
      have k822 : Kept p G8 G22 := ((((Kept.same (s9.trans (s10.trans s11))).trans (Kept.same t14)).trans (Kept.same s15)).trans (Kept.same u20)).trans (k21'.trans (Kept.same s22))
      obtain ⟨nmB, wvB, alB22, wokB, _⟩ := wv2 k822
      obtain ⟨dxB, _, _, _, _, hxB, _⟩ := id wvB
      have nmBl : nmB.length = ks2.length := alB22.len
      have hk222 : G22 kl2 = some (.lst kv2) := k822 _ _ nk2 (t8 _ _ hk2)
      have few2' := few2
      refine ⟨_, rfl, x2, dxB, _, rfl, hxB, x2, nmB, cs2, rfl, wvB, wokB.nms, ⟨nmB.length, rfl, by omega, ?_⟩⟩
      refine ⟨_, rfl, t5, _, _, _, rfl, rfl, KT.kept k822 hp8 _ _ (Same.tup t8 ht5), atI_nat (j := 0) rfl, kl2, _, rfl, .inl (SqL.of hk222), rfl, _, rfl, iteF_ ?_ ?_⟩
      · rw [nmBl, kvl2, decide_eq_true rfl]
        rfl
      exact ⟨_, _, _, _, _, _, _, _, rfl, sG.trans (Same.kept s1 fp ((k1.trans (Kept.same t4)).trans k22))⟩
    · rintro σ G ⟨w1, w2, w3, w4, w5, w6, w7, w8, rfl, sG⟩
      have wok0 : WvOk [] [] := Web.nil.ok (by decide) (by decide) rfl
      have cok0 : CordsOk [] := Web.nil.cordsOk (by decide)
      refine ⟨(by show 0 ≤ sizeLine; decide), fun la1 ha1 => ⟨(by show 0 ≤ sizeLine; decide), fun la2 ha2 => ?_⟩⟩
      have sa1 := Same.new (o := .lst []) (Same.refl G) ha1
      have hla1 : (upd G la1 (.lst [])) la1 = some (.lst []) := upd_same
      generalize upd G la1 (.lst []) = Ea1 at sa1 hla1 ha2
      have sa2 := Same.new (o := .lst []) (Same.refl Ea1) ha2
      have hla2 : (upd Ea1 la2 (.lst [])) la2 = some (.lst []) := upd_same
      generalize upd Ea1 la2 (.lst []) = Ea2 at sa2 hla2
      refine fun xa dxa nxa ndxa nea => ⟨Ea2, xa, dxa, la1, la2, [], [], rfl, Same.new (Same.new (Same.refl Ea2) ndxa) (by rw [upd_ne nea.symm]; exact nxa), nxa, upd_same, ⟨[], sa2 _ _ hla1, trivial⟩, ⟨[], hla2, trivial⟩, wok0, (fun _ h => (List.not_mem_nil h).elim), fun Ea3 sa3 wva => ⟨rfl, ?_⟩⟩
      have wA : WvK K dd c CW Ea3 xa [] [] := ⟨[], wva.at, trivial, wok0, cok0⟩
      refine ⟨(by show 0 ≤ sizeLine; decide), fun lb1 hb1 => ⟨(by show 0 ≤ sizeLine; decide), fun lb2 hb2 => ?_⟩⟩
      have sb1 := Same.new (o := .lst []) (Same.refl Ea3) hb1
      have hlb1 : (upd Ea3 lb1 (.lst [])) lb1 = some (.lst []) := upd_same
      generalize upd Ea3 lb1 (.lst []) = Eb1 at sb1 hlb1 hb2
      have sb2 := Same.new (o := .lst []) (Same.refl Eb1) hb2
      have hlb2 : (upd Eb1 lb2 (.lst [])) lb2 = some (.lst []) := upd_same
      generalize upd Eb1 lb2 (.lst []) = Eb2 at sb2 hlb2
      refine fun xb dxb nxb ndxb neb => ⟨Eb2, xb, dxb, lb1, lb2, [], [], rfl, Same.new (Same.new (Same.refl Eb2) ndxb) (by rw [upd_ne neb.symm]; exact nxb), nxb, upd_same, ⟨[], sb2 _ _ hlb1, trivial⟩, ⟨[], hlb2, trivial⟩, wok0, (fun _ h => (List.not_mem_nil h).elim), fun Eb3 sb3 wvb => ⟨rfl, ?_⟩⟩
      have wB : WvK K dd c CW Eb3 xb [] [] := ⟨[], wvb.at, trivial, wok0, cok0⟩
      have sB := sb1.trans (sb2.trans sb3)
      refine ⟨true, RwD.own ⟨[], [], wA.keep sB, .inl ⟨xb, [], [], rfl, wB, (decide_eq_true ⟨rfl, rfl⟩).symm⟩⟩, fun E4 s4 => ⟨_, rfl, iteT_ rfl ?_⟩⟩
      refine ⟨(by show 0 ≤ sizeLine; decide), fun lc1 hc1 => ⟨(by show 0 ≤ sizeLine; decide), fun lc2 hc2 => ?_⟩⟩
      have sc1 := Same.new (o := .lst []) (Same.refl E4) hc1
      have hlc1 : (upd E4 lc1 (.lst [])) lc1 = some (.lst []) := upd_same
      generalize upd E4 lc1 (.lst []) = Ec1 at sc1 hlc1 hc2
      have sc2 := Same.new (o := .lst []) (Same.refl Ec1) hc2
      have hlc2 : (upd Ec1 lc2 (.lst [])) lc2 = some (.lst []) := upd_same
      generalize upd Ec1 lc2 (.lst []) = Ec2 at sc2 hlc2
      refine fun xc dxc nxc ndxc nec => ⟨Ec2, xc, dxc, lc1, lc2, [], [], rfl, Same.new (Same.new (Same.refl Ec2) ndxc) (by rw [upd_ne nec.symm]; exact nxc), nxc, upd_same, ⟨[], sc2 _ _ hlc1, trivial⟩, ⟨[], hlc2, trivial⟩, wok0, (fun _ h => (List.not_mem_nil h).elim), fun Ec3 sc3 wvc => ⟨rfl, ?_⟩⟩
      obtain ⟨dxc, _, _, _, _, hxc, _⟩ := id wvc.at
      refine ⟨xc, _, _, rfl, hxc, xc, [], _, rfl, wvc.at, wok0.nms, ⟨0, rfl, by decide, ?_⟩⟩
      refine ⟨rfl, ?_⟩
      exact kk _
end
end Sw
namespace Sw
open PySem PySem.Spec PyProof.Rows L2
def clK (K : PySem.W.Frag) : Srt → Addr
  | .gain => He.ga K "Gain"
  | .mix => He.ga K "Mix"
  | .times => He.ga K "Times"
  | .choose => He.ga K "Choose"
  | .up => He.ga K "Up"
  | .down => He.ga K "Down"
  | .resample => He.ga K "Resample"
  | .own => He.ga K "Own"
  | .outlet => He.ga K "Outlet"
  | .inlet => He.ga K "Inlet"
def nmS : Srt → Str
  | .gain => "Gain"
  | .mix => "Mix"
  | .times => "Times"
  | .choose => "Choose"
  | .up => "Up"
  | .down => "Down"
  | .resample => "Resample"
  | .own => "Own"
  | .outlet => "Outlet"
  | .inlet => "Inlet"
theorem clK_nm (K : PySem.W.Frag) (A : Srt) : clK K A = He.ga K (nmS A) := by cases A <;> rfl
theorem nmS_mem (A : Srt) : nmS A ∈ csN := by cases A <;> decide +kernel
theorem nmS_dec (A B : Srt) : decide (nmS A = nmS B) = decide (A = B) := by cases A <;> cases B <;> decide +kernel
theorem apart_ok {K : PySem.W.Frag} (h : apB K = true) : Apart K (clK K) := fun A B => by
  have h1 := List.all_eq_true.mp (List.all_eq_true.mp h _ (nmS_mem A)) _ (nmS_mem B)
  obtain ⟨h2, h3⟩ := He.ba h1
  rw [clK_nm, clK_nm]
  have h4 := of_decide_eq_true h2
  rw [nmS_dec] at h4
  exact ⟨h4, h3⟩
theorem nw_ok {K : PySem.W.Frag} (h : nwB K = true) : ∀ T ∈ (["NoneType", "int", "str", "tuple", "list", "dict", "bool"] : List String), NoWv K (He.ga K "Weave") T := fun T hT => by
  have h1 := List.all_eq_true.mp h T hT
  obtain ⟨h2, h3⟩ := He.ba h1
  obtain ⟨h3, h4⟩ := He.ba h3
  exact ⟨of_decide_eq_true h2, h3, of_decide_eq_true h4⟩
theorem facts {P : Program} {w : World} {K : PySem.W.Frag} {h : Heap} {mg : Str → Option Value} {f : Addr} (X : K.In h) (G : h.Ns mainGlobals mg) (hfa : mg ("law" : Str) = some (.ref f)) (cx : ex K = true) (c : He.SaysD fa fn K) :
    ∃ fd : FuncData, (∀ (s : Shared) (v : Value), BindsTo s fd ⟨[v], []⟩ [("_law_script", v)]) ∧ ∀ base : Heap, K.In base → base.Ns mainGlobals mg → FnG P w K mg base CX0 9 f fd ["_law_script"] (spLaw K) := by
  unfold ex at cx
  obtain ⟨d_is_whole, F_is_whole⟩ := c.def_ 0 (d := dfn "is_whole" sWhole) rfl
  have g_is_whole := He.glo_ok X G (c.fact 0 (f := .glo "is_whole") rfl)
  have b_is_whole : Binds K d_is_whole ["thing"] [] := FunD.bindsN F_is_whole fun _ _ _ _ _ _ us hl => match us, hl with | [_], _ => rfl
  obtain ⟨d_is_whole_within, F_is_whole_within⟩ := c.def_ 1 (d := dfn "is_whole_within" sWithin) rfl
  have g_is_whole_within := He.glo_ok X G (c.fact 1 (f := .glo "is_whole_within") rfl)
  have b_is_whole_within : Binds K d_is_whole_within ["thing", "least", "most"] [] := FunD.bindsN F_is_whole_within fun _ _ _ _ _ _ us hl => match us, hl with | [_, _, _], _ => rfl
  obtain ⟨d_is_truth, F_is_truth⟩ := c.def_ 2 (d := dfn "is_truth" sTruth) rfl
  have g_is_truth := He.glo_ok X G (c.fact 2 (f := .glo "is_truth") rfl)
  have b_is_truth : Binds K d_is_truth ["thing"] [] := FunD.bindsN F_is_truth fun _ _ _ _ _ _ us hl => match us, hl with | [_], _ => rfl
  obtain ⟨d_are_wholes, F_are_wholes⟩ := c.def_ 3 (d := dfn "are_wholes" sWholes) rfl
  have g_are_wholes := He.glo_ok X G (c.fact 3 (f := .glo "are_wholes") rfl)
  have b_are_wholes : Binds K d_are_wholes ["things"] [] := FunD.bindsN F_are_wholes fun _ _ _ _ _ _ us hl => match us, hl with | [_], _ => rfl
  obtain ⟨d_are_wholes_within, F_are_wholes_within⟩ := c.def_ 4 (d := dfn "are_wholes_within" sAreWholesWithin) rfl
  have g_are_wholes_within := He.glo_ok X G (c.fact 4 (f := .glo "are_wholes_within") rfl)
  have b_are_wholes_within : Binds K d_are_wholes_within ["things", "least", "most"] [] := FunD.bindsN F_are_wholes_within fun _ _ _ _ _ _ us hl => match us, hl with | [_, _, _], _ => rfl
  obtain ⟨d_is_list_of_wholes, F_is_list_of_wholes⟩ := c.def_ 5 (d := dfn "is_list_of_wholes" sListOf) rfl
  have g_is_list_of_wholes := He.glo_ok X G (c.fact 5 (f := .glo "is_list_of_wholes") rfl)
  have b_is_list_of_wholes : Binds K d_is_list_of_wholes ["thing", "least", "most"] [] := FunD.bindsN F_is_list_of_wholes fun _ _ _ _ _ _ us hl => match us, hl with | [_, _, _], _ => rfl
  obtain ⟨d_need, F_need⟩ := c.def_ 6 (d := dfn "need" sNeed) rfl
  have g_need := He.glo_ok X G (c.fact 6 (f := .glo "need") rfl)
  have b_need : Binds K d_need ["holds", "field"] [] := FunD.bindsN F_need fun _ _ _ _ _ _ us hl => match us, hl with | [_, _], _ => rfl
  obtain ⟨d_is_name, F_is_name⟩ := c.def_ 7 (d := dfn "is_name" sIsName) rfl
  have g_is_name := He.glo_ok X G (c.fact 7 (f := .glo "is_name") rfl)
  have b_is_name : Binds K d_is_name ["thing"] [] := FunD.bindsN F_is_name fun _ _ _ _ _ _ us hl => match us, hl with | [_], _ => rfl
  obtain ⟨d_is_one_of, F_is_one_of⟩ := c.def_ 8 (d := dfn "is_one_of" sIsOneOf) rfl
  have g_is_one_of := He.glo_ok X G (c.fact 8 (f := .glo "is_one_of") rfl)
  have b_is_one_of : Binds K d_is_one_of ["thing", "names"] [] := FunD.bindsN F_is_one_of fun _ _ _ _ _ _ us hl => match us, hl with | [_, _], _ => rfl
  obtain ⟨d_all_reached, F_all_reached⟩ := c.def_ 9 (d := dfn "all_reached" sAllReached) rfl
  have g_all_reached := He.glo_ok X G (c.fact 9 (f := .glo "all_reached") rfl)
  have b_all_reached : Binds K d_all_reached ["starts", "onward"] [] := FunD.bindsN F_all_reached fun _ _ _ _ _ _ us hl => match us, hl with | [_, _], _ => rfl
  obtain ⟨d_nodes_by_name, F_nodes_by_name⟩ := c.def_ 10 (d := dfn "nodes_by_name" sNodesByName) rfl
  have g_nodes_by_name := He.glo_ok X G (c.fact 10 (f := .glo "nodes_by_name") rfl)
  have b_nodes_by_name : Binds K d_nodes_by_name ["nodes"] [] := FunD.bindsN F_nodes_by_name fun _ _ _ _ _ _ us hl => match us, hl with | [_], _ => rfl
  obtain ⟨d_check_wire, F_check_wire⟩ := c.def_ 11 (d := dfn "check_wire" sCheckWire) rfl
  have g_check_wire := He.glo_ok X G (c.fact 11 (f := .glo "check_wire") rfl)
  have b_check_wire : Binds K d_check_wire ["number", "wire", "named"] [] := FunD.bindsN F_check_wire fun _ _ _ _ _ _ us hl => match us, hl with | [_, _, _], _ => rfl
  obtain ⟨d_wires_by_goal, F_wires_by_goal⟩ := c.def_ 12 (d := dfn "wires_by_goal" sWiresByGoal) rfl
  have g_wires_by_goal := He.glo_ok X G (c.fact 12 (f := .glo "wires_by_goal") rfl)
  have b_wires_by_goal : Binds K d_wires_by_goal ["wires", "named"] [] := FunD.bindsN F_wires_by_goal fun _ _ _ _ _ _ us hl => match us, hl with | [_, _], _ => rfl
  obtain ⟨d_refuse_bare, F_refuse_bare⟩ := c.def_ 13 (d := dfn "refuse_bare" sRefuseBare) rfl
  have g_refuse_bare := He.glo_ok X G (c.fact 13 (f := .glo "refuse_bare") rfl)
  have b_refuse_bare : Binds K d_refuse_bare ["leading"] [] := FunD.bindsN F_refuse_bare fun _ _ _ _ _ _ us hl => match us, hl with | [_], _ => rfl
  obtain ⟨d_wires_by_source, F_wires_by_source⟩ := c.def_ 14 (d := dfn "wires_by_source" sWiresBySource) rfl
  have g_wires_by_source := He.glo_ok X G (c.fact 14 (f := .glo "wires_by_source") rfl)
  have b_wires_by_source : Binds K d_wires_by_source ["wires", "named"] [] := FunD.bindsN F_wires_by_source fun _ _ _ _ _ _ us hl => match us, hl with | [_, _], _ => rfl
  obtain ⟨d_refuse_unfed, F_refuse_unfed⟩ := c.def_ 15 (d := dfn "refuse_unfed" sRefuseUnfed) rfl
  have g_refuse_unfed := He.glo_ok X G (c.fact 15 (f := .glo "refuse_unfed") rfl)
  have b_refuse_unfed : Binds K d_refuse_unfed ["named", "wires", "leaving"] [] := FunD.bindsN F_refuse_unfed fun _ _ _ _ _ _ us hl => match us, hl with | [_, _, _], _ => rfl
  obtain ⟨d__law_pot, F__law_pot⟩ := c.def_ 16 (d := dfn "_law_pot" sPot) rfl
  have g__law_pot := He.glo_ok X G (c.fact 16 (f := .glo "_law_pot") rfl)
  have b__law_pot : Binds K d__law_pot ["_law_script", "_law_k"] [] := FunD.bindsN F__law_pot fun _ _ _ _ _ _ us hl => match us, hl with | [_, _], _ => rfl
  obtain ⟨d__law_take, F__law_take⟩ := c.def_ 17 (d := dfn "_law_take" sLTake) rfl
  have g__law_take := He.glo_ok X G (c.fact 17 (f := .glo "_law_take") rfl)
  have b__law_take : Binds K d__law_take ["_law_pot_here", "_law_many"] [] := FunD.bindsN F__law_take fun _ _ _ _ _ _ us hl => match us, hl with | [_, _], _ => rfl
  obtain ⟨d__law_name, F__law_name⟩ := c.def_ 18 (d := dfn "_law_name" sLName) rfl
  have g__law_name := He.glo_ok X G (c.fact 18 (f := .glo "_law_name") rfl)
  have b__law_name : Binds K d__law_name ["_law_pot_here", "_law_taken"] [] := FunD.bindsN F__law_name fun _ _ _ _ _ _ us hl => match us, hl with | [_, _], _ => rfl
  obtain ⟨d__law_spec, F__law_spec⟩ := c.def_ 19 (d := dfn "_law_spec" sLSpec) rfl
  have g__law_spec := He.glo_ok X G (c.fact 19 (f := .glo "_law_spec") rfl)
  have b__law_spec : Binds K d__law_spec ["_law_pot_here"] [] := FunD.bindsN F__law_spec fun _ _ _ _ _ _ us hl => match us, hl with | [_], _ => rfl
  obtain ⟨d__law_takes, F__law_takes⟩ := c.def_ 20 (d := dfn "_law_takes" sLTakes) rfl
  have g__law_takes := He.glo_ok X G (c.fact 20 (f := .glo "_law_takes") rfl)
  have b__law_takes : Binds K d__law_takes ["_law_spec_here"] [] := FunD.bindsN F__law_takes fun _ _ _ _ _ _ us hl => match us, hl with | [_], _ => rfl
  obtain ⟨d__law_made, F__law_made⟩ := c.def_ 21 (d := dfn "_law_made" sLMade) rfl
  have g__law_made := He.glo_ok X G (c.fact 21 (f := .glo "_law_made") rfl)
  have b__law_made : Binds K d__law_made ["_law_spec_here"] [] := FunD.bindsN F__law_made fun _ _ _ _ _ _ us hl => match us, hl with | [_], _ => rfl
  obtain ⟨d__law_turned, F__law_turned⟩ := c.def_ 22 (d := dfn "_law_turned" sLTurned) rfl
  have g__law_turned := He.glo_ok X G (c.fact 22 (f := .glo "_law_turned") rfl)
  have b__law_turned : Binds K d__law_turned ["_law_pot_here", "_law_row"] [] := FunD.bindsN F__law_turned fun _ _ _ _ _ _ us hl => match us, hl with | [_, _], _ => rfl
  obtain ⟨d__law_sources, F__law_sources⟩ := c.def_ 23 (d := dfn "_law_sources" sLSources) rfl
  have g__law_sources := He.glo_ok X G (c.fact 23 (f := .glo "_law_sources") rfl)
  have b__law_sources : Binds K d__law_sources ["_law_knots"] [] := FunD.bindsN F__law_sources fun _ _ _ _ _ _ us hl => match us, hl with | [_], _ => rfl
  obtain ⟨d__law_pick, F__law_pick⟩ := c.def_ 24 (d := dfn "_law_pick" sLPick) rfl
  have g__law_pick := He.glo_ok X G (c.fact 24 (f := .glo "_law_pick") rfl)
  have b__law_pick : Binds K d__law_pick ["_law_pot_here", "_law_some"] [] := FunD.bindsN F__law_pick fun _ _ _ _ _ _ us hl => match us, hl with | [_, _], _ => rfl
  obtain ⟨d__law_drawn, F__law_drawn⟩ := c.def_ 25 (d := dfn "_law_drawn" sLDrawn) rfl
  have g__law_drawn := He.glo_ok X G (c.fact 25 (f := .glo "_law_drawn") rfl)
  have b__law_drawn : Binds K d__law_drawn ["_law_pot_here"] [] := FunD.bindsN F__law_drawn fun _ _ _ _ _ _ us hl => match us, hl with | [_], _ => rfl
  obtain ⟨d__law_pairs, F__law_pairs⟩ := c.def_ 26 (d := dfn "_law_pairs" sLPairs) rfl
  have g__law_pairs := He.glo_ok X G (c.fact 26 (f := .glo "_law_pairs") rfl)
  have b__law_pairs : Binds K d__law_pairs ["_law_knots"] [] := FunD.bindsN F__law_pairs fun _ _ _ _ _ _ us hl => match us, hl with | [_], _ => rfl
  obtain ⟨d__law_exchanged, F__law_exchanged⟩ := c.def_ 27 (d := dfn "_law_exchanged" sLExchanged) rfl
  have g__law_exchanged := He.glo_ok X G (c.fact 27 (f := .glo "_law_exchanged") rfl)
  have b__law_exchanged : Binds K d__law_exchanged ["_law_pot_here", "_law_row"] [] := FunD.bindsN F__law_exchanged fun _ _ _ _ _ _ us hl => match us, hl with | [_, _], _ => rfl
  obtain ⟨d__law_named, F__law_named⟩ := c.def_ 28 (d := dfn "_law_named" sLNamed) rfl
  have g__law_named := He.glo_ok X G (c.fact 28 (f := .glo "_law_named") rfl)
  have b__law_named : Binds K d__law_named ["_law_pot_here", "_law_knots", "_law_cords"] [] := FunD.bindsN F__law_named fun _ _ _ _ _ _ us hl => match us, hl with | [_, _, _], _ => rfl
  obtain ⟨d__law_other, F__law_other⟩ := c.def_ 29 (d := dfn "_law_other" sLOther) rfl
  have g__law_other := He.glo_ok X G (c.fact 29 (f := .glo "_law_other") rfl)
  have b__law_other : Binds K d__law_other ["_law_pot_here", "_law_knots", "_law_cords"] [] := FunD.bindsN F__law_other fun _ _ _ _ _ _ us hl => match us, hl with | [_, _, _], _ => rfl
  obtain ⟨d__law_right, F__law_right⟩ := c.def_ 30 (d := dfn "_law_right" sLRight) rfl
  have g__law_right := He.glo_ok X G (c.fact 30 (f := .glo "_law_right") rfl)
  have b__law_right : Binds K d__law_right ["_law_one", "_law_other_here", "_law_due"] [] := FunD.bindsN F__law_right fun _ _ _ _ _ _ us hl => match us, hl with | [_, _, _], _ => rfl
  obtain ⟨d_law, F_law⟩ := c.def_ 31 (d := dfn "law" sLaw) rfl
  have e := hfa.symm.trans (He.glo_ok X G (c.fact 31 (f := .glo "law") rfl))
  cases e
  have bL := FunD.bindsA (ps := ["_law_script"]) F_law fun _ _ _ _ _ _ us hl => match us, hl with | [_], _ => rfl
  obtain ⟨d_Node_DinitD, F_Node_DinitD⟩ := c.def_ 32 (d := (⟨("Node", some "__init__"), "__init__", "Node.__init__", defArgs sNodeInit, defBody sNodeInit, defScope sNodeInit, [], []⟩ : He.DefD)) rfl
  have b_Node_DinitD : Binds K d_Node_DinitD ["self", "arguments", "late", "begin"] [] := FunD.bindsN F_Node_DinitD fun _ _ _ _ _ _ us hl => match us, hl with | [_, _, _, _], _ => rfl
  obtain ⟨d_Gain_DinitD, F_Gain_DinitD⟩ := c.def_ 33 (d := (⟨("Gain", some "__init__"), "__init__", "Gain.__init__", defArgs sGainInit, defBody sGainInit, defScope sGainInit, [], [("late", .int 0), ("begin", .int 0)]⟩ : He.DefD)) rfl
  obtain ⟨d_Gain_takes, F_Gain_takes⟩ := c.def_ 34 (d := (⟨("Gain", some "takes"), "takes", "Gain.takes", defArgs sGainTakes, defBody sGainTakes, defScope sGainTakes, [], []⟩ : He.DefD)) rfl
  have b_Gain_takes : Binds K d_Gain_takes ["self"] [] := FunD.bindsN F_Gain_takes fun _ _ _ _ _ _ us hl => match us, hl with | [_], _ => rfl
  obtain ⟨d_Gain_DeqD, F_Gain_DeqD⟩ := c.def_ 35 (d := (⟨("Gain", some "__eq__"), "__eq__", "Gain.__eq__", defArgs sGainEq, defBody sGainEq, defScope sGainEq, [], []⟩ : He.DefD)) rfl
  have b_Gain_DeqD : Binds K d_Gain_DeqD ["self", "other"] [] := FunD.bindsN F_Gain_DeqD fun _ _ _ _ _ _ us hl => match us, hl with | [_, _], _ => rfl
  obtain ⟨d_Mix_DinitD, F_Mix_DinitD⟩ := c.def_ 36 (d := (⟨("Mix", some "__init__"), "__init__", "Mix.__init__", defArgs sMixInit, defBody sMixInit, defScope sMixInit, [], [("late", .int 0), ("begin", .int 0)]⟩ : He.DefD)) rfl
  obtain ⟨d_Mix_takes, F_Mix_takes⟩ := c.def_ 37 (d := (⟨("Mix", some "takes"), "takes", "Mix.takes", defArgs sMixTakes, defBody sMixTakes, defScope sMixTakes, [], []⟩ : He.DefD)) rfl
  have b_Mix_takes : Binds K d_Mix_takes ["self"] [] := FunD.bindsN F_Mix_takes fun _ _ _ _ _ _ us hl => match us, hl with | [_], _ => rfl
  obtain ⟨d_Mix_DeqD, F_Mix_DeqD⟩ := c.def_ 38 (d := (⟨("Mix", some "__eq__"), "__eq__", "Mix.__eq__", defArgs sMixEq, defBody sMixEq, defScope sMixEq, [], []⟩ : He.DefD)) rfl
  have b_Mix_DeqD : Binds K d_Mix_DeqD ["self", "other"] [] := FunD.bindsN F_Mix_DeqD fun _ _ _ _ _ _ us hl => match us, hl with | [_, _], _ => rfl
  obtain ⟨d_Times_DinitD, F_Times_DinitD⟩ := c.def_ 39 (d := (⟨("Times", some "__init__"), "__init__", "Times.__init__", defArgs sTimesInit, defBody sTimesInit, defScope sTimesInit, [], [("late", .int 0), ("begin", .int 0)]⟩ : He.DefD)) rfl
  obtain ⟨d_Times_takes, F_Times_takes⟩ := c.def_ 40 (d := (⟨("Times", some "takes"), "takes", "Times.takes", defArgs sTimesTakes, defBody sTimesTakes, defScope sTimesTakes, [], []⟩ : He.DefD)) rfl
  have b_Times_takes : Binds K d_Times_takes ["self"] [] := FunD.bindsN F_Times_takes fun _ _ _ _ _ _ us hl => match us, hl with | [_], _ => rfl
  obtain ⟨d_Times_DeqD, F_Times_DeqD⟩ := c.def_ 41 (d := (⟨("Times", some "__eq__"), "__eq__", "Times.__eq__", defArgs sTimesEq, defBody sTimesEq, defScope sTimesEq, [], []⟩ : He.DefD)) rfl
  have b_Times_DeqD : Binds K d_Times_DeqD ["self", "other"] [] := FunD.bindsN F_Times_DeqD fun _ _ _ _ _ _ us hl => match us, hl with | [_, _], _ => rfl
  obtain ⟨d_Choose_DinitD, F_Choose_DinitD⟩ := c.def_ 42 (d := (⟨("Choose", some "__init__"), "__init__", "Choose.__init__", defArgs sChooseInit, defBody sChooseInit, defScope sChooseInit, [], [("late", .int 0), ("begin", .int 0)]⟩ : He.DefD)) rfl
  obtain ⟨d_Choose_takes, F_Choose_takes⟩ := c.def_ 43 (d := (⟨("Choose", some "takes"), "takes", "Choose.takes", defArgs sChooseTakes, defBody sChooseTakes, defScope sChooseTakes, [], []⟩ : He.DefD)) rfl
  have b_Choose_takes : Binds K d_Choose_takes ["self"] [] := FunD.bindsN F_Choose_takes fun _ _ _ _ _ _ us hl => match us, hl with | [_], _ => rfl
  obtain ⟨d_Choose_DeqD, F_Choose_DeqD⟩ := c.def_ 44 (d := (⟨("Choose", some "__eq__"), "__eq__", "Choose.__eq__", defArgs sChooseEq, defBody sChooseEq, defScope sChooseEq, [], []⟩ : He.DefD)) rfl
  have b_Choose_DeqD : Binds K d_Choose_DeqD ["self", "other"] [] := FunD.bindsN F_Choose_DeqD fun _ _ _ _ _ _ us hl => match us, hl with | [_, _], _ => rfl
  obtain ⟨d_Up_DinitD, F_Up_DinitD⟩ := c.def_ 45 (d := (⟨("Up", some "__init__"), "__init__", "Up.__init__", defArgs sUpInit, defBody sUpInit, defScope sUpInit, [.bl false], [("late", .int 0), ("begin", .int 0)]⟩ : He.DefD)) rfl
  obtain ⟨d_Up_takes, F_Up_takes⟩ := c.def_ 46 (d := (⟨("Up", some "takes"), "takes", "Up.takes", defArgs sUpTakes, defBody sUpTakes, defScope sUpTakes, [], []⟩ : He.DefD)) rfl
  have b_Up_takes : Binds K d_Up_takes ["self"] [] := FunD.bindsN F_Up_takes fun _ _ _ _ _ _ us hl => match us, hl with | [_], _ => rfl
  obtain ⟨d_Up_DeqD, F_Up_DeqD⟩ := c.def_ 47 (d := (⟨("Up", some "__eq__"), "__eq__", "Up.__eq__", defArgs sUpEq, defBody sUpEq, defScope sUpEq, [], []⟩ : He.DefD)) rfl
  have b_Up_DeqD : Binds K d_Up_DeqD ["self", "other"] [] := FunD.bindsN F_Up_DeqD fun _ _ _ _ _ _ us hl => match us, hl with | [_, _], _ => rfl
  obtain ⟨d_Down_DinitD, F_Down_DinitD⟩ := c.def_ 48 (d := (⟨("Down", some "__init__"), "__init__", "Down.__init__", defArgs sDownInit, defBody sDownInit, defScope sDownInit, [], [("late", .int 0), ("begin", .int 0)]⟩ : He.DefD)) rfl
  obtain ⟨d_Down_takes, F_Down_takes⟩ := c.def_ 49 (d := (⟨("Down", some "takes"), "takes", "Down.takes", defArgs sDownTakes, defBody sDownTakes, defScope sDownTakes, [], []⟩ : He.DefD)) rfl
  have b_Down_takes : Binds K d_Down_takes ["self"] [] := FunD.bindsN F_Down_takes fun _ _ _ _ _ _ us hl => match us, hl with | [_], _ => rfl
  obtain ⟨d_Down_DeqD, F_Down_DeqD⟩ := c.def_ 50 (d := (⟨("Down", some "__eq__"), "__eq__", "Down.__eq__", defArgs sDownEq, defBody sDownEq, defScope sDownEq, [], []⟩ : He.DefD)) rfl
  have b_Down_DeqD : Binds K d_Down_DeqD ["self", "other"] [] := FunD.bindsN F_Down_DeqD fun _ _ _ _ _ _ us hl => match us, hl with | [_, _], _ => rfl
  obtain ⟨d_Resample_DinitD, F_Resample_DinitD⟩ := c.def_ 51 (d := (⟨("Resample", some "__init__"), "__init__", "Resample.__init__", defArgs sResampleInit, defBody sResampleInit, defScope sResampleInit, [], [("late", .int 0), ("begin", .int 0)]⟩ : He.DefD)) rfl
  obtain ⟨d_Resample_takes, F_Resample_takes⟩ := c.def_ 52 (d := (⟨("Resample", some "takes"), "takes", "Resample.takes", defArgs sResampleTakes, defBody sResampleTakes, defScope sResampleTakes, [], []⟩ : He.DefD)) rfl
  have b_Resample_takes : Binds K d_Resample_takes ["self"] [] := FunD.bindsN F_Resample_takes fun _ _ _ _ _ _ us hl => match us, hl with | [_], _ => rfl
  obtain ⟨d_Resample_DeqD, F_Resample_DeqD⟩ := c.def_ 53 (d := (⟨("Resample", some "__eq__"), "__eq__", "Resample.__eq__", defArgs sResampleEq, defBody sResampleEq, defScope sResampleEq, [], []⟩ : He.DefD)) rfl
  have b_Resample_DeqD : Binds K d_Resample_DeqD ["self", "other"] [] := FunD.bindsN F_Resample_DeqD fun _ _ _ _ _ _ us hl => match us, hl with | [_, _], _ => rfl
  obtain ⟨d_Own_DinitD, F_Own_DinitD⟩ := c.def_ 54 (d := (⟨("Own", some "__init__"), "__init__", "Own.__init__", defArgs sOwnInit, defBody sOwnInit, defScope sOwnInit, [.adr ownT, .int 1, .int 0], [("late", .int 0), ("begin", .int 0)]⟩ : He.DefD)) rfl
  obtain ⟨d_Own_takes, F_Own_takes⟩ := c.def_ 55 (d := (⟨("Own", some "takes"), "takes", "Own.takes", defArgs sOwnTakes, defBody sOwnTakes, defScope sOwnTakes, [], []⟩ : He.DefD)) rfl
  have b_Own_takes : Binds K d_Own_takes ["self"] [] := FunD.bindsN F_Own_takes fun _ _ _ _ _ _ us hl => match us, hl with | [_], _ => rfl
  obtain ⟨d_Own_DeqD, F_Own_DeqD⟩ := c.def_ 56 (d := (⟨("Own", some "__eq__"), "__eq__", "Own.__eq__", defArgs sOwnEq, defBody sOwnEq, defScope sOwnEq, [], []⟩ : He.DefD)) rfl
  have b_Own_DeqD : Binds K d_Own_DeqD ["self", "other"] [] := FunD.bindsN F_Own_DeqD fun _ _ _ _ _ _ us hl => match us, hl with | [_, _], _ => rfl
  obtain ⟨d_Outlet_DinitD, F_Outlet_DinitD⟩ := c.def_ 57 (d := (⟨("Outlet", some "__init__"), "__init__", "Outlet.__init__", defArgs sOutletInit, defBody sOutletInit, defScope sOutletInit, [], []⟩ : He.DefD)) rfl
  have b_Outlet_DinitD : Binds K d_Outlet_DinitD ["self"] [] := FunD.bindsN F_Outlet_DinitD fun _ _ _ _ _ _ us hl => match us, hl with | [_], _ => rfl
  obtain ⟨d_Outlet_takes, F_Outlet_takes⟩ := c.def_ 58 (d := (⟨("Outlet", some "takes"), "takes", "Outlet.takes", defArgs sOutletTakes, defBody sOutletTakes, defScope sOutletTakes, [], []⟩ : He.DefD)) rfl
  have b_Outlet_takes : Binds K d_Outlet_takes ["self"] [] := FunD.bindsN F_Outlet_takes fun _ _ _ _ _ _ us hl => match us, hl with | [_], _ => rfl
  obtain ⟨d_Outlet_DeqD, F_Outlet_DeqD⟩ := c.def_ 59 (d := (⟨("Outlet", some "__eq__"), "__eq__", "Outlet.__eq__", defArgs sOutletEq, defBody sOutletEq, defScope sOutletEq, [], []⟩ : He.DefD)) rfl
  have b_Outlet_DeqD : Binds K d_Outlet_DeqD ["self", "other"] [] := FunD.bindsN F_Outlet_DeqD fun _ _ _ _ _ _ us hl => match us, hl with | [_, _], _ => rfl
  obtain ⟨d_Inlet_DinitD, F_Inlet_DinitD⟩ := c.def_ 60 (d := (⟨("Inlet", some "__init__"), "__init__", "Inlet.__init__", defArgs sInletInit, defBody sInletInit, defScope sInletInit, [], []⟩ : He.DefD)) rfl
  have b_Inlet_DinitD : Binds K d_Inlet_DinitD ["self"] [] := FunD.bindsN F_Inlet_DinitD fun _ _ _ _ _ _ us hl => match us, hl with | [_], _ => rfl
  obtain ⟨d_Inlet_takes, F_Inlet_takes⟩ := c.def_ 61 (d := (⟨("Inlet", some "takes"), "takes", "Inlet.takes", defArgs sInletTakes, defBody sInletTakes, defScope sInletTakes, [], []⟩ : He.DefD)) rfl
  have b_Inlet_takes : Binds K d_Inlet_takes ["self"] [] := FunD.bindsN F_Inlet_takes fun _ _ _ _ _ _ us hl => match us, hl with | [_], _ => rfl
  obtain ⟨d_Inlet_DeqD, F_Inlet_DeqD⟩ := c.def_ 62 (d := (⟨("Inlet", some "__eq__"), "__eq__", "Inlet.__eq__", defArgs sInletEq, defBody sInletEq, defScope sInletEq, [], []⟩ : He.DefD)) rfl
  have b_Inlet_DeqD : Binds K d_Inlet_DeqD ["self", "other"] [] := FunD.bindsN F_Inlet_DeqD fun _ _ _ _ _ _ us hl => match us, hl with | [_, _], _ => rfl
  obtain ⟨d_Weave_DinitD, F_Weave_DinitD⟩ := c.def_ 63 (d := (⟨("Weave", some "__init__"), "__init__", "Weave.__init__", defArgs sWeaveInit, defBody sWeaveInit, defScope sWeaveInit, [], []⟩ : He.DefD)) rfl
  have b_Weave_DinitD : Binds K d_Weave_DinitD ["self", "nodes", "wires"] [] := FunD.bindsN F_Weave_DinitD fun _ _ _ _ _ _ us hl => match us, hl with | [_, _, _], _ => rfl
  obtain ⟨d_Weave_names, F_Weave_names⟩ := c.def_ 64 (d := (⟨("Weave", some "names"), "names", "Weave.names", defArgs sWeaveNames, defBody sWeaveNames, defScope sWeaveNames, [], []⟩ : He.DefD)) rfl
  have b_Weave_names : Binds K d_Weave_names ["self"] [] := FunD.bindsN F_Weave_names fun _ _ _ _ _ _ us hl => match us, hl with | [_], _ => rfl
  obtain ⟨d_Weave_pairs, F_Weave_pairs⟩ := c.def_ 65 (d := (⟨("Weave", some "pairs"), "pairs", "Weave.pairs", defArgs sWeavePairs, defBody sWeavePairs, defScope sWeavePairs, [], []⟩ : He.DefD)) rfl
  have b_Weave_pairs : Binds K d_Weave_pairs ["self"] [] := FunD.bindsN F_Weave_pairs fun _ _ _ _ _ _ us hl => match us, hl with | [_], _ => rfl
  obtain ⟨d_Weave_DeqD, F_Weave_DeqD⟩ := c.def_ 66 (d := (⟨("Weave", some "__eq__"), "__eq__", "Weave.__eq__", defArgs sWeaveEq, defBody sWeaveEq, defScope sWeaveEq, [], []⟩ : He.DefD)) rfl
  have b_Weave_DeqD : Binds K d_Weave_DeqD ["self", "other"] [] := FunD.bindsN F_Weave_DeqD fun _ _ _ _ _ _ us hl => match us, hl with | [_, _], _ => rfl
  obtain ⟨d_Weave_DlenD, F_Weave_DlenD⟩ := c.def_ 67 (d := (⟨("Weave", some "__len__"), "__len__", "Weave.__len__", defArgs sWeaveLen, defBody sWeaveLen, defScope sWeaveLen, [], []⟩ : He.DefD)) rfl
  have b_Weave_DlenD : Binds K d_Weave_DlenD ["self"] [] := FunD.bindsN F_Weave_DlenD fun _ _ _ _ _ _ us hl => match us, hl with | [_], _ => rfl
  have z_len := He.free_ok X G (c.fact 32 (f := .free "len") rfl)
  have z_max := He.free_ok X G (c.fact 33 (f := .free "max") rfl)
  have z_min := He.free_ok X G (c.fact 34 (f := .free "min") rfl)
  have z_range := He.free_ok X G (c.fact 35 (f := .free "range") rfl)
  have z_isinstance := He.free_ok X G (c.fact 36 (f := .free "isinstance") rfl)
  have z_int := He.free_ok X G (c.fact 37 (f := .free "int") rfl)
  have z_bool := He.free_ok X G (c.fact 38 (f := .free "bool") rfl)
  have z_list := He.free_ok X G (c.fact 39 (f := .free "list") rfl)
  have z_tuple := He.free_ok X G (c.fact 40 (f := .free "tuple") rfl)
  have z_str := He.free_ok X G (c.fact 41 (f := .free "str") rfl)
  have z_repr := He.free_ok X G (c.fact 42 (f := .free "repr") rfl)
  have z_all := He.free_ok X G (c.fact 43 (f := .free "all") rfl)
  have z_divmod := He.free_ok X G (c.fact 44 (f := .free "divmod") rfl)
  have z_enumerate := He.free_ok X G (c.fact 45 (f := .free "enumerate") rfl)
  have z_MOST_LATE := He.int_ok X G (c.fact 46 (f := .int "MOST_LATE" 99) rfl)
  have z_MOST_BEGIN := He.int_ok X G (c.fact 47 (f := .int "MOST_BEGIN" 9999) rfl)
  have z_MOST_MIXED := He.int_ok X G (c.fact 48 (f := .int "MOST_MIXED" 8) rfl)
  have z_MOST_OWN_PLACES := He.int_ok X G (c.fact 49 (f := .int "MOST_OWN_PLACES" 4) rfl)
  have z_MOST_OWN_SAMPLES := He.int_ok X G (c.fact 50 (f := .int "MOST_OWN_SAMPLES" 8) rfl)
  have z_MOST_NODES := He.int_ok X G (c.fact 51 (f := .int "MOST_NODES" 24) rfl)
  have z_MOST_WIRES := He.int_ok X G (c.fact 52 (f := .int "MOST_WIRES" 48) rfl)
  have z_MOST_DELAY := He.int_ok X G (c.fact 53 (f := .int "MOST_DELAY" 9999) rfl)
  have z_MOST_TAPS := He.int_ok X G (c.fact 54 (f := .int "MOST_TAPS" 12) rfl)
  have z_MOST_RATE := He.int_ok X G (c.fact 55 (f := .int "MOST_RATE" 8) rfl)
  have z_LONGEST_NAME := He.int_ok X G (c.fact 56 (f := .int "LONGEST_NAME" 8) rfl)
  have G_Node := He.glo_ok X G (c.fact 57 (f := .glo "Node") rfl)
  have G_Weave := He.glo_ok X G (c.fact 58 (f := .glo "Weave") rfl)
  have G_Gain := He.glo_ok X G (c.fact 59 (f := .glo "Gain") rfl)
  have G_Mix := He.glo_ok X G (c.fact 60 (f := .glo "Mix") rfl)
  have G_Times := He.glo_ok X G (c.fact 61 (f := .glo "Times") rfl)
  have G_Choose := He.glo_ok X G (c.fact 62 (f := .glo "Choose") rfl)
  have G_Up := He.glo_ok X G (c.fact 63 (f := .glo "Up") rfl)
  have G_Down := He.glo_ok X G (c.fact 64 (f := .glo "Down") rfl)
  have G_Resample := He.glo_ok X G (c.fact 65 (f := .glo "Resample") rfl)
  have G_Own := He.glo_ok X G (c.fact 66 (f := .glo "Own") rfl)
  have G_Outlet := He.glo_ok X G (c.fact 67 (f := .glo "Outlet") rfl)
  have G_Inlet := He.glo_ok X G (c.fact 68 (f := .glo "Inlet") rfl)
  have G__law_deed := He.glo_ok X G (c.fact 69 (f := .glo "_law_deed") rfl)
  have c_Gain := He.cls_ok (c.fact 70 (f := .cls "Gain") rfl)
  have n_Gain_made := He.noat_ok (c.fact 71 (f := .noat "Gain" "made") rfl)
  have n_Gain_late_by := He.noat_ok (c.fact 72 (f := .noat "Gain" "late_by") rfl)
  have n_Gain_begin_at := He.noat_ok (c.fact 73 (f := .noat "Gain" "begin_at") rfl)
  have n_Gain_by := He.noat_ok (c.fact 74 (f := .noat "Gain" "by") rfl)
  have mk_Gain := He.mkr_ok (c.fact 75 (f := .mkr "Gain") rfl)
  have m_Gain_takes := He.meth_ok (c.fact 76 (f := .meth "Gain" "takes") rfl)
  have c_Mix := He.cls_ok (c.fact 77 (f := .cls "Mix") rfl)
  have n_Mix_made := He.noat_ok (c.fact 78 (f := .noat "Mix" "made") rfl)
  have n_Mix_late_by := He.noat_ok (c.fact 79 (f := .noat "Mix" "late_by") rfl)
  have n_Mix_begin_at := He.noat_ok (c.fact 80 (f := .noat "Mix" "begin_at") rfl)
  have n_Mix_many := He.noat_ok (c.fact 81 (f := .noat "Mix" "many") rfl)
  have mk_Mix := He.mkr_ok (c.fact 82 (f := .mkr "Mix") rfl)
  have m_Mix_takes := He.meth_ok (c.fact 83 (f := .meth "Mix" "takes") rfl)
  have c_Times := He.cls_ok (c.fact 84 (f := .cls "Times") rfl)
  have n_Times_made := He.noat_ok (c.fact 85 (f := .noat "Times" "made") rfl)
  have n_Times_late_by := He.noat_ok (c.fact 86 (f := .noat "Times" "late_by") rfl)
  have n_Times_begin_at := He.noat_ok (c.fact 87 (f := .noat "Times" "begin_at") rfl)
  have mk_Times := He.mkr_ok (c.fact 88 (f := .mkr "Times") rfl)
  have m_Times_takes := He.meth_ok (c.fact 89 (f := .meth "Times" "takes") rfl)
  have c_Choose := He.cls_ok (c.fact 90 (f := .cls "Choose") rfl)
  have n_Choose_made := He.noat_ok (c.fact 91 (f := .noat "Choose" "made") rfl)
  have n_Choose_late_by := He.noat_ok (c.fact 92 (f := .noat "Choose" "late_by") rfl)
  have n_Choose_begin_at := He.noat_ok (c.fact 93 (f := .noat "Choose" "begin_at") rfl)
  have mk_Choose := He.mkr_ok (c.fact 94 (f := .mkr "Choose") rfl)
  have m_Choose_takes := He.meth_ok (c.fact 95 (f := .meth "Choose" "takes") rfl)
  have c_Up := He.cls_ok (c.fact 96 (f := .cls "Up") rfl)
  have n_Up_made := He.noat_ok (c.fact 97 (f := .noat "Up" "made") rfl)
  have n_Up_late_by := He.noat_ok (c.fact 98 (f := .noat "Up" "late_by") rfl)
  have n_Up_begin_at := He.noat_ok (c.fact 99 (f := .noat "Up" "begin_at") rfl)
  have n_Up_many := He.noat_ok (c.fact 100 (f := .noat "Up" "many") rfl)
  have n_Up_hold := He.noat_ok (c.fact 101 (f := .noat "Up" "hold") rfl)
  have mk_Up := He.mkr_ok (c.fact 102 (f := .mkr "Up") rfl)
  have m_Up_takes := He.meth_ok (c.fact 103 (f := .meth "Up" "takes") rfl)
  have c_Down := He.cls_ok (c.fact 104 (f := .cls "Down") rfl)
  have n_Down_made := He.noat_ok (c.fact 105 (f := .noat "Down" "made") rfl)
  have n_Down_late_by := He.noat_ok (c.fact 106 (f := .noat "Down" "late_by") rfl)
  have n_Down_begin_at := He.noat_ok (c.fact 107 (f := .noat "Down" "begin_at") rfl)
  have n_Down_many := He.noat_ok (c.fact 108 (f := .noat "Down" "many") rfl)
  have mk_Down := He.mkr_ok (c.fact 109 (f := .mkr "Down") rfl)
  have m_Down_takes := He.meth_ok (c.fact 110 (f := .meth "Down" "takes") rfl)
  have c_Resample := He.cls_ok (c.fact 111 (f := .cls "Resample") rfl)
  have n_Resample_made := He.noat_ok (c.fact 112 (f := .noat "Resample" "made") rfl)
  have n_Resample_late_by := He.noat_ok (c.fact 113 (f := .noat "Resample" "late_by") rfl)
  have n_Resample_begin_at := He.noat_ok (c.fact 114 (f := .noat "Resample" "begin_at") rfl)
  have n_Resample_up := He.noat_ok (c.fact 115 (f := .noat "Resample" "up") rfl)
  have n_Resample_down := He.noat_ok (c.fact 116 (f := .noat "Resample" "down") rfl)
  have n_Resample_numbers := He.noat_ok (c.fact 117 (f := .noat "Resample" "numbers") rfl)
  have mk_Resample := He.mkr_ok (c.fact 118 (f := .mkr "Resample") rfl)
  have m_Resample_takes := He.meth_ok (c.fact 119 (f := .meth "Resample" "takes") rfl)
  have c_Own := He.cls_ok (c.fact 120 (f := .cls "Own") rfl)
  have n_Own_made := He.noat_ok (c.fact 121 (f := .noat "Own" "made") rfl)
  have n_Own_late_by := He.noat_ok (c.fact 122 (f := .noat "Own" "late_by") rfl)
  have n_Own_begin_at := He.noat_ok (c.fact 123 (f := .noat "Own" "begin_at") rfl)
  have n_Own_deed := He.noat_ok (c.fact 124 (f := .noat "Own" "deed") rfl)
  have n_Own_taken := He.noat_ok (c.fact 125 (f := .noat "Own" "taken") rfl)
  have n_Own_given := He.noat_ok (c.fact 126 (f := .noat "Own" "given") rfl)
  have n_Own_first := He.noat_ok (c.fact 127 (f := .noat "Own" "first") rfl)
  have mk_Own := He.mkr_ok (c.fact 128 (f := .mkr "Own") rfl)
  have m_Own_takes := He.meth_ok (c.fact 129 (f := .meth "Own" "takes") rfl)
  have c_Outlet := He.cls_ok (c.fact 130 (f := .cls "Outlet") rfl)
  have n_Outlet_made := He.noat_ok (c.fact 131 (f := .noat "Outlet" "made") rfl)
  have n_Outlet_late_by := He.noat_ok (c.fact 132 (f := .noat "Outlet" "late_by") rfl)
  have n_Outlet_begin_at := He.noat_ok (c.fact 133 (f := .noat "Outlet" "begin_at") rfl)
  have mk_Outlet := He.mkr_ok (c.fact 134 (f := .mkr "Outlet") rfl)
  have m_Outlet_takes := He.meth_ok (c.fact 135 (f := .meth "Outlet" "takes") rfl)
  have c_Inlet := He.cls_ok (c.fact 136 (f := .cls "Inlet") rfl)
  have n_Inlet_made := He.noat_ok (c.fact 137 (f := .noat "Inlet" "made") rfl)
  have n_Inlet_late_by := He.noat_ok (c.fact 138 (f := .noat "Inlet" "late_by") rfl)
  have n_Inlet_begin_at := He.noat_ok (c.fact 139 (f := .noat "Inlet" "begin_at") rfl)
  have mk_Inlet := He.mkr_ok (c.fact 140 (f := .mkr "Inlet") rfl)
  have m_Inlet_takes := He.meth_ok (c.fact 141 (f := .meth "Inlet" "takes") rfl)
  have c_Weave := He.cls_ok (c.fact 142 (f := .cls "Weave") rfl)
  have n_Weave_named := He.noat_ok (c.fact 143 (f := .noat "Weave" "named") rfl)
  have n_Weave_leading := He.noat_ok (c.fact 144 (f := .noat "Weave" "leading") rfl)
  have n_Weave_laid := He.noat_ok (c.fact 145 (f := .noat "Weave" "laid") rfl)
  have n_Weave_leaving := He.noat_ok (c.fact 146 (f := .noat "Weave" "leaving") rfl)
  have mk_Weave := He.mkr_ok (c.fact 147 (f := .mkr "Weave") rfl)
  have m_Weave_names := He.meth_ok (c.fact 148 (f := .meth "Weave" "names") rfl)
  have m_Weave_pairs := He.meth_ok (c.fact 149 (f := .meth "Weave" "pairs") rfl)
  have z_LETTERS := He.str_ok X G (c.fact 150 (f := .str "LETTERS" "abcdefghijklmnopqrstuvwxyz") rfl)
  obtain ⟨x_iN_Gain, cx⟩ := He.ba cx
  obtain ⟨x_iS_Gain, cx⟩ := He.ba cx
  obtain ⟨x_kO_Gain, cx⟩ := He.ba cx
  obtain ⟨x_kI_Gain, cx⟩ := He.ba cx
  obtain ⟨x_eq_Gain, cx⟩ := He.ba cx
  obtain ⟨x_iN_Mix, cx⟩ := He.ba cx
  obtain ⟨x_iS_Mix, cx⟩ := He.ba cx
  obtain ⟨x_kO_Mix, cx⟩ := He.ba cx
  obtain ⟨x_kI_Mix, cx⟩ := He.ba cx
  obtain ⟨x_eq_Mix, cx⟩ := He.ba cx
  obtain ⟨x_iN_Times, cx⟩ := He.ba cx
  obtain ⟨x_iS_Times, cx⟩ := He.ba cx
  obtain ⟨x_kO_Times, cx⟩ := He.ba cx
  obtain ⟨x_kI_Times, cx⟩ := He.ba cx
  obtain ⟨x_eq_Times, cx⟩ := He.ba cx
  obtain ⟨x_iN_Choose, cx⟩ := He.ba cx
  obtain ⟨x_iS_Choose, cx⟩ := He.ba cx
  obtain ⟨x_kO_Choose, cx⟩ := He.ba cx
  obtain ⟨x_kI_Choose, cx⟩ := He.ba cx
  obtain ⟨x_eq_Choose, cx⟩ := He.ba cx
  obtain ⟨x_iN_Up, cx⟩ := He.ba cx
  obtain ⟨x_iS_Up, cx⟩ := He.ba cx
  obtain ⟨x_kO_Up, cx⟩ := He.ba cx
  obtain ⟨x_kI_Up, cx⟩ := He.ba cx
  obtain ⟨x_eq_Up, cx⟩ := He.ba cx
  obtain ⟨x_iN_Down, cx⟩ := He.ba cx
  obtain ⟨x_iS_Down, cx⟩ := He.ba cx
  obtain ⟨x_kO_Down, cx⟩ := He.ba cx
  obtain ⟨x_kI_Down, cx⟩ := He.ba cx
  obtain ⟨x_eq_Down, cx⟩ := He.ba cx
  obtain ⟨x_iN_Resample, cx⟩ := He.ba cx
  obtain ⟨x_iS_Resample, cx⟩ := He.ba cx
  obtain ⟨x_kO_Resample, cx⟩ := He.ba cx
  obtain ⟨x_kI_Resample, cx⟩ := He.ba cx
  obtain ⟨x_eq_Resample, cx⟩ := He.ba cx
  obtain ⟨x_iN_Own, cx⟩ := He.ba cx
  obtain ⟨x_iS_Own, cx⟩ := He.ba cx
  obtain ⟨x_kO_Own, cx⟩ := He.ba cx
  obtain ⟨x_kI_Own, cx⟩ := He.ba cx
  obtain ⟨x_eq_Own, cx⟩ := He.ba cx
  obtain ⟨x_iN_Outlet, cx⟩ := He.ba cx
  obtain ⟨x_iS_Outlet, cx⟩ := He.ba cx
  obtain ⟨x_kO_Outlet, cx⟩ := He.ba cx
  obtain ⟨x_kI_Outlet, cx⟩ := He.ba cx
  obtain ⟨x_eq_Outlet, cx⟩ := He.ba cx
  obtain ⟨x_iN_Inlet, cx⟩ := He.ba cx
  obtain ⟨x_iS_Inlet, cx⟩ := He.ba cx
  obtain ⟨x_kO_Inlet, cx⟩ := He.ba cx
  obtain ⟨x_kI_Inlet, cx⟩ := He.ba cx
  obtain ⟨x_eq_Inlet, cx⟩ := He.ba cx
  obtain ⟨x_wl, cx⟩ := He.ba cx
  obtain ⟨x_ap, cx⟩ := He.ba cx
  obtain ⟨x_nw, cx⟩ := He.ba cx
  obtain ⟨x_iW, cx⟩ := He.ba cx
  obtain ⟨x_wq, cx⟩ := He.ba cx
  obtain ⟨x_ne, cx⟩ := He.ba cx
  obtain ⟨x_mo, cx⟩ := He.ba cx
  have mB := baseB_ok cx
  obtain ⟨mvG, kbGain⟩ := FunD.kbinds0 (ps := ["self", "by", "late", "begin"]) F_Gain_DinitD 2 ["late", "begin"] [] (fun us mv ws => us ++ ws) (by intro z; cases z) (fun _ h => (List.not_mem_nil h).elim) (fun r1 _ r3 => r1.append r3) (by
      intro D doc pm an cdv ct us mv ws l1 l2 l3
      match us, mv, ws, l1, l2, l3 with
      | [_, _], [], [_, _], _, _, _ => exact rfl)
  obtain ⟨dsMix, vMix, bMix⟩ := FunD.binds0 (ps := ["self", "many", "late", "begin"]) F_Mix_DinitD 2 (by intro z; cases z) rfl (by
      intro D doc pm an cdv ct us ks l1 l2
      match us, ks, l1, l2 with
      | [_, _], [_, _], _, _ => exact ⟨_, _, _, _, _, _, rfl, rfl, _, _, _, _, _, _, rfl, rfl, rfl⟩)
  obtain ⟨dsTimes, vTimes, bTimes⟩ := FunD.binds0 (ps := ["self", "late", "begin"]) F_Times_DinitD 1 (by intro z; cases z) rfl (by
      intro D doc pm an cdv ct us ks l1 l2
      match us, ks, l1, l2 with
      | [_], [_, _], _, _ => exact ⟨_, _, _, _, _, _, rfl, rfl, _, _, _, _, _, _, rfl, rfl, rfl⟩)
  obtain ⟨dsChoose, vChoose, bChoose⟩ := FunD.binds0 (ps := ["self", "late", "begin"]) F_Choose_DinitD 1 (by intro z; cases z) rfl (by
      intro D doc pm an cdv ct us ks l1 l2
      match us, ks, l1, l2 with
      | [_], [_, _], _, _ => exact ⟨_, _, _, _, _, _, rfl, rfl, _, _, _, _, _, _, rfl, rfl, rfl⟩)
  obtain ⟨dsUp, vUp, bUp⟩ := FunD.binds (ps := ["self", "many", "hold", "late", "begin"]) F_Up_DinitD 2 0 (by intro z; cases z) rfl (by
      intro T D doc pm an cdv ct us its ks l1 l2 l3
      match us, its, ks, l1, l2, l3 with
      | [_, _], [_], [_, _], _, _, _ => exact ⟨_, rfl, _, _, _, _, _, _, rfl, rfl, _, _, _, _, _, _, rfl, rfl, rfl⟩) (by intro z; cases z)
  obtain ⟨dsDown, vDown, bDown⟩ := FunD.binds0 (ps := ["self", "many", "late", "begin"]) F_Down_DinitD 2 (by intro z; cases z) rfl (by
      intro D doc pm an cdv ct us ks l1 l2
      match us, ks, l1, l2 with
      | [_, _], [_, _], _, _ => exact ⟨_, _, _, _, _, _, rfl, rfl, _, _, _, _, _, _, rfl, rfl, rfl⟩)
  obtain ⟨dsResample, vResample, bResample⟩ := FunD.binds0 (ps := ["self", "up", "down", "numbers", "late", "begin"]) F_Resample_DinitD 4 (by intro z; cases z) rfl (by
      intro D doc pm an cdv ct us ks l1 l2
      match us, ks, l1, l2 with
      | [_, _, _, _], [_, _], _, _ => exact ⟨_, _, _, _, _, _, rfl, rfl, _, _, _, _, _, _, rfl, rfl, rfl⟩)
  obtain ⟨dsOwn, vOwn, bOwn⟩ := FunD.binds (ps := ["self", "deed", "takes", "gives", "first", "late", "begin"]) F_Own_DinitD 4 2 (by intro z; cases z) rfl (by
      intro T D doc pm an cdv ct us its ks l1 l2 l3
      match us, its, ks, l1, l2, l3 with
      | [_, _, _, _], [_, _, _], [_, _], _, _, _ => exact ⟨_, rfl, _, _, _, _, _, _, rfl, rfl, _, _, _, _, _, _, rfl, rfl, rfl⟩) (by intro z; cases z)
  refine ⟨d_law, fun s v => bL s [v] rfl, fun base _ _ => ?_⟩
  have T_Gain : NodeC K (He.ga K "Gain") := ⟨c_Gain, n_Gain_made, n_Gain_late_by, n_Gain_begin_at⟩
  have T_Mix : NodeC K (He.ga K "Mix") := ⟨c_Mix, n_Mix_made, n_Mix_late_by, n_Mix_begin_at⟩
  have T_Times : NodeC K (He.ga K "Times") := ⟨c_Times, n_Times_made, n_Times_late_by, n_Times_begin_at⟩
  have T_Choose : NodeC K (He.ga K "Choose") := ⟨c_Choose, n_Choose_made, n_Choose_late_by, n_Choose_begin_at⟩
  have T_Up : NodeC K (He.ga K "Up") := ⟨c_Up, n_Up_made, n_Up_late_by, n_Up_begin_at⟩
  have T_Down : NodeC K (He.ga K "Down") := ⟨c_Down, n_Down_made, n_Down_late_by, n_Down_begin_at⟩
  have T_Resample : NodeC K (He.ga K "Resample") := ⟨c_Resample, n_Resample_made, n_Resample_late_by, n_Resample_begin_at⟩
  have T_Own : NodeC K (He.ga K "Own") := ⟨c_Own, n_Own_made, n_Own_late_by, n_Own_begin_at⟩
  have T_Outlet : NodeC K (He.ga K "Outlet") := ⟨c_Outlet, n_Outlet_made, n_Outlet_late_by, n_Outlet_begin_at⟩
  have T_Inlet : NodeC K (He.ga K "Inlet") := ⟨c_Inlet, n_Inlet_made, n_Inlet_late_by, n_Inlet_begin_at⟩
  have cS : ClsS K (clK K) (He.ga K "Node") (He.ga K "Outlet") (He.ga K "Inlet") := by
    refine ⟨fun A => ?_, fun A => ?_, fun A => ?_, fun A => ?_, fun A => ?_⟩
    · cases A with
      | gain => exact T_Gain
      | mix => exact T_Mix
      | times => exact T_Times
      | choose => exact T_Choose
      | up => exact T_Up
      | down => exact T_Down
      | resample => exact T_Resample
      | own => exact T_Own
      | outlet => exact T_Outlet
      | inlet => exact T_Inlet
    · cases A with
      | gain => exact insB_ok x_iN_Gain
      | mix => exact insB_ok x_iN_Mix
      | times => exact insB_ok x_iN_Times
      | choose => exact insB_ok x_iN_Choose
      | up => exact insB_ok x_iN_Up
      | down => exact insB_ok x_iN_Down
      | resample => exact insB_ok x_iN_Resample
      | own => exact insB_ok x_iN_Own
      | outlet => exact insB_ok x_iN_Outlet
      | inlet => exact insB_ok x_iN_Inlet
    · cases A with
      | gain => exact insB_ok x_iS_Gain
      | mix => exact insB_ok x_iS_Mix
      | times => exact insB_ok x_iS_Times
      | choose => exact insB_ok x_iS_Choose
      | up => exact insB_ok x_iS_Up
      | down => exact insB_ok x_iS_Down
      | resample => exact insB_ok x_iS_Resample
      | own => exact insB_ok x_iS_Own
      | outlet => exact insB_ok x_iS_Outlet
      | inlet => exact insB_ok x_iS_Inlet
    · cases A with
      | gain => exact of_decide_eq_true x_kO_Gain
      | mix => exact of_decide_eq_true x_kO_Mix
      | times => exact of_decide_eq_true x_kO_Times
      | choose => exact of_decide_eq_true x_kO_Choose
      | up => exact of_decide_eq_true x_kO_Up
      | down => exact of_decide_eq_true x_kO_Down
      | resample => exact of_decide_eq_true x_kO_Resample
      | own => exact of_decide_eq_true x_kO_Own
      | outlet => exact of_decide_eq_true x_kO_Outlet
      | inlet => exact of_decide_eq_true x_kO_Inlet
    · cases A with
      | gain => exact of_decide_eq_true x_kI_Gain
      | mix => exact of_decide_eq_true x_kI_Mix
      | times => exact of_decide_eq_true x_kI_Times
      | choose => exact of_decide_eq_true x_kI_Choose
      | up => exact of_decide_eq_true x_kI_Up
      | down => exact of_decide_eq_true x_kI_Down
      | resample => exact of_decide_eq_true x_kI_Resample
      | own => exact of_decide_eq_true x_kI_Own
      | outlet => exact of_decide_eq_true x_kI_Outlet
      | inlet => exact of_decide_eq_true x_kI_Inlet
  have G0 : FnOk P w K mg base CX0 1 _ d_is_whole ["thing"] (spWhole K) := ok_whole F_is_whole z_isinstance z_int z_bool
  have G1 : FnOk P w K mg base CX0 2 _ d_is_whole_within ["thing", "least", "most"] (spWithin K) := ok_within F_is_whole_within G0 g_is_whole F_is_whole.kp b_is_whole
  have G2 : FnOk P w K mg base CX0 1 _ d_need ["holds", "field"] spNeed := ok_need F_need
  have G3 : FnOk P w K mg base CX0 2 _ d_are_wholes ["things"] (spWholes K) := ok_wholes F_are_wholes G0 g_is_whole F_is_whole.kp b_is_whole z_all
  have G4 : FnOk P w K mg base CX0 3 _ d_is_list_of_wholes ["thing", "least", "most"] (spListOf K) := ok_listOf F_is_list_of_wholes G3 g_are_wholes F_are_wholes.kp b_are_wholes z_isinstance z_list z_len
  have G5 : FnOk P w K mg base CX0 1 _ d_is_truth ["thing"] spTruth := ok_truth F_is_truth
  have G6 : FnOk P w K mg base CX0 3 _ d_are_wholes_within ["things", "least", "most"] (spWholesIn K) := ok_wholesIn F_are_wholes_within G1 g_is_whole_within F_is_whole_within.kp b_is_whole_within z_all
  have NI_Gain : FnOk P w K mg base CX0 3 _ d_Node_DinitD ["self", "arguments", "late", "begin"] (spNodeInit K (He.ga K "Gain")) := ok_nodeInit F_Node_DinitD G2 g_need F_need.kp b_need G1 g_is_whole_within F_is_whole_within.kp b_is_whole_within z_MOST_LATE z_MOST_BEGIN T_Gain
  have NI_Mix : FnOk P w K mg base CX0 3 _ d_Node_DinitD ["self", "arguments", "late", "begin"] (spNodeInit K (He.ga K "Mix")) := ok_nodeInit F_Node_DinitD G2 g_need F_need.kp b_need G1 g_is_whole_within F_is_whole_within.kp b_is_whole_within z_MOST_LATE z_MOST_BEGIN T_Mix
  have NI_Times : FnOk P w K mg base CX0 3 _ d_Node_DinitD ["self", "arguments", "late", "begin"] (spNodeInit K (He.ga K "Times")) := ok_nodeInit F_Node_DinitD G2 g_need F_need.kp b_need G1 g_is_whole_within F_is_whole_within.kp b_is_whole_within z_MOST_LATE z_MOST_BEGIN T_Times
  have NI_Choose : FnOk P w K mg base CX0 3 _ d_Node_DinitD ["self", "arguments", "late", "begin"] (spNodeInit K (He.ga K "Choose")) := ok_nodeInit F_Node_DinitD G2 g_need F_need.kp b_need G1 g_is_whole_within F_is_whole_within.kp b_is_whole_within z_MOST_LATE z_MOST_BEGIN T_Choose
  have NI_Up : FnOk P w K mg base CX0 3 _ d_Node_DinitD ["self", "arguments", "late", "begin"] (spNodeInit K (He.ga K "Up")) := ok_nodeInit F_Node_DinitD G2 g_need F_need.kp b_need G1 g_is_whole_within F_is_whole_within.kp b_is_whole_within z_MOST_LATE z_MOST_BEGIN T_Up
  have NI_Down : FnOk P w K mg base CX0 3 _ d_Node_DinitD ["self", "arguments", "late", "begin"] (spNodeInit K (He.ga K "Down")) := ok_nodeInit F_Node_DinitD G2 g_need F_need.kp b_need G1 g_is_whole_within F_is_whole_within.kp b_is_whole_within z_MOST_LATE z_MOST_BEGIN T_Down
  have NI_Resample : FnOk P w K mg base CX0 3 _ d_Node_DinitD ["self", "arguments", "late", "begin"] (spNodeInit K (He.ga K "Resample")) := ok_nodeInit F_Node_DinitD G2 g_need F_need.kp b_need G1 g_is_whole_within F_is_whole_within.kp b_is_whole_within z_MOST_LATE z_MOST_BEGIN T_Resample
  have NI_Own : FnOk P w K mg base CX0 3 _ d_Node_DinitD ["self", "arguments", "late", "begin"] (spNodeInit K (He.ga K "Own")) := ok_nodeInit F_Node_DinitD G2 g_need F_need.kp b_need G1 g_is_whole_within F_is_whole_within.kp b_is_whole_within z_MOST_LATE z_MOST_BEGIN T_Own
  have NI_Outlet : FnOk P w K mg base CX0 3 _ d_Node_DinitD ["self", "arguments", "late", "begin"] (spNodeInit K (He.ga K "Outlet")) := ok_nodeInit F_Node_DinitD G2 g_need F_need.kp b_need G1 g_is_whole_within F_is_whole_within.kp b_is_whole_within z_MOST_LATE z_MOST_BEGIN T_Outlet
  have NI_Inlet : FnOk P w K mg base CX0 3 _ d_Node_DinitD ["self", "arguments", "late", "begin"] (spNodeInit K (He.ga K "Inlet")) := ok_nodeInit F_Node_DinitD G2 g_need F_need.kp b_need G1 g_is_whole_within F_is_whole_within.kp b_is_whole_within z_MOST_LATE z_MOST_BEGIN T_Inlet
  have I_Gain : FnOk P w K mg base CX0 4 _ d_Gain_DinitD ["self", "by", "late", "begin"] (spMk K .gain (clK K .gain) (He.ga K "_law_deed")) := ok_gainInit F_Gain_DinitD NI_Gain G_Node mB b_Node_DinitD T_Gain G2 g_need F_need.kp b_need G0 g_is_whole F_is_whole.kp b_is_whole n_Gain_by 
  have I_Mix : FnOk P w K mg base CX0 4 _ d_Mix_DinitD ["self", "many", "late", "begin"] (spMk K .mix (clK K .mix) (He.ga K "_law_deed")) := ok_mixInit F_Mix_DinitD NI_Mix G_Node mB b_Node_DinitD T_Mix G2 g_need F_need.kp b_need G1 g_is_whole_within F_is_whole_within.kp b_is_whole_within n_Mix_many z_MOST_MIXED
  have I_Times : FnOk P w K mg base CX0 4 _ d_Times_DinitD ["self", "late", "begin"] (spMk K .times (clK K .times) (He.ga K "_law_deed")) := ok_timesInit F_Times_DinitD NI_Times G_Node mB b_Node_DinitD T_Times 
  have I_Choose : FnOk P w K mg base CX0 4 _ d_Choose_DinitD ["self", "late", "begin"] (spMk K .choose (clK K .choose) (He.ga K "_law_deed")) := ok_chooseInit F_Choose_DinitD NI_Choose G_Node mB b_Node_DinitD T_Choose 
  have I_Up : FnOk P w K mg base CX0 4 _ d_Up_DinitD ["self", "many", "hold", "late", "begin"] (spMk K .up (clK K .up) (He.ga K "_law_deed")) := ok_upInit F_Up_DinitD NI_Up G_Node mB b_Node_DinitD T_Up G2 g_need F_need.kp b_need G1 g_is_whole_within F_is_whole_within.kp b_is_whole_within G5 g_is_truth F_is_truth.kp b_is_truth n_Up_many n_Up_hold z_MOST_RATE
  have I_Down : FnOk P w K mg base CX0 4 _ d_Down_DinitD ["self", "many", "late", "begin"] (spMk K .down (clK K .down) (He.ga K "_law_deed")) := ok_downInit F_Down_DinitD NI_Down G_Node mB b_Node_DinitD T_Down G2 g_need F_need.kp b_need G1 g_is_whole_within F_is_whole_within.kp b_is_whole_within n_Down_many z_MOST_RATE
  have I_Resample : FnOk P w K mg base CX0 4 _ d_Resample_DinitD ["self", "up", "down", "numbers", "late", "begin"] (spMk K .resample (clK K .resample) (He.ga K "_law_deed")) := ok_resampleInit F_Resample_DinitD NI_Resample G_Node mB b_Node_DinitD T_Resample G2 g_need F_need.kp b_need G1 g_is_whole_within F_is_whole_within.kp b_is_whole_within G4 g_is_list_of_wholes F_is_list_of_wholes.kp b_is_list_of_wholes n_Resample_numbers n_Resample_up n_Resample_down z_MOST_RATE z_MOST_TAPS z_list
  have I_Own : FnOk P w K mg base CX0 4 _ d_Own_DinitD ["self", "deed", "takes", "gives", "first", "late", "begin"] (spMk K .own (clK K .own) (He.ga K "_law_deed")) := ok_ownInit F_Own_DinitD NI_Own G_Node mB b_Node_DinitD T_Own G2 g_need F_need.kp b_need G0 g_is_whole F_is_whole.kp b_is_whole G1 g_is_whole_within F_is_whole_within.kp b_is_whole_within G6 g_are_wholes_within F_are_wholes_within.kp b_are_wholes_within G3 g_are_wholes F_are_wholes.kp b_are_wholes n_Own_deed n_Own_taken n_Own_given n_Own_first z_MOST_OWN_SAMPLES z_MOST_OWN_PLACES z_isinstance z_tuple z_len
  have I_Outlet : FnOk P w K mg base CX0 4 _ d_Outlet_DinitD ["self"] (spMk K .outlet (clK K .outlet) (He.ga K "_law_deed")) := ok_outletInit F_Outlet_DinitD NI_Outlet G_Node mB b_Node_DinitD T_Outlet 
  have I_Inlet : FnOk P w K mg base CX0 4 _ d_Inlet_DinitD ["self"] (spMk K .inlet (clK K .inlet) (He.ga K "_law_deed")) := ok_inletInit F_Inlet_DinitD NI_Inlet G_Node mB b_Node_DinitD T_Inlet 
  have tk_Gain : FnOk P w K mg base CX0 1 _ d_Gain_takes ["self"] (spTkS K (clK K) (He.ga K "_law_deed") .gain) := ok_gainTakes F_Gain_takes 
  have eq_Gain : FnOk P w K mg base CX0 3 _ d_Gain_DeqD ["self", "other"] (spEq (RS K (clK K) (He.ga K "_law_deed") .gain)) := ok_gainEq F_Gain_DeqD cS G_Gain z_isinstance
  have tk_Mix : FnOk P w K mg base CX0 1 _ d_Mix_takes ["self"] (spTkS K (clK K) (He.ga K "_law_deed") .mix) := ok_mixTakes F_Mix_takes T_Mix n_Mix_many
  have eq_Mix : FnOk P w K mg base CX0 3 _ d_Mix_DeqD ["self", "other"] (spEq (RS K (clK K) (He.ga K "_law_deed") .mix)) := ok_mixEq F_Mix_DeqD cS G_Mix z_isinstance
  have tk_Times : FnOk P w K mg base CX0 1 _ d_Times_takes ["self"] (spTkS K (clK K) (He.ga K "_law_deed") .times) := ok_timesTakes F_Times_takes 
  have eq_Times : FnOk P w K mg base CX0 3 _ d_Times_DeqD ["self", "other"] (spEq (RS K (clK K) (He.ga K "_law_deed") .times)) := ok_timesEq F_Times_DeqD cS G_Times z_isinstance
  have tk_Choose : FnOk P w K mg base CX0 1 _ d_Choose_takes ["self"] (spTkS K (clK K) (He.ga K "_law_deed") .choose) := ok_chooseTakes F_Choose_takes 
  have eq_Choose : FnOk P w K mg base CX0 3 _ d_Choose_DeqD ["self", "other"] (spEq (RS K (clK K) (He.ga K "_law_deed") .choose)) := ok_chooseEq F_Choose_DeqD cS G_Choose z_isinstance
  have tk_Up : FnOk P w K mg base CX0 1 _ d_Up_takes ["self"] (spTkS K (clK K) (He.ga K "_law_deed") .up) := ok_upTakes F_Up_takes 
  have eq_Up : FnOk P w K mg base CX0 3 _ d_Up_DeqD ["self", "other"] (spEq (RS K (clK K) (He.ga K "_law_deed") .up)) := ok_upEq F_Up_DeqD cS G_Up z_isinstance
  have tk_Down : FnOk P w K mg base CX0 1 _ d_Down_takes ["self"] (spTkS K (clK K) (He.ga K "_law_deed") .down) := ok_downTakes F_Down_takes T_Down n_Down_many
  have eq_Down : FnOk P w K mg base CX0 3 _ d_Down_DeqD ["self", "other"] (spEq (RS K (clK K) (He.ga K "_law_deed") .down)) := ok_downEq F_Down_DeqD cS G_Down z_isinstance
  have tk_Resample : FnOk P w K mg base CX0 1 _ d_Resample_takes ["self"] (spTkS K (clK K) (He.ga K "_law_deed") .resample) := ok_resampleTakes F_Resample_takes T_Resample n_Resample_down
  have eq_Resample : FnOk P w K mg base CX0 3 _ d_Resample_DeqD ["self", "other"] (spEq (RS K (clK K) (He.ga K "_law_deed") .resample)) := ok_resampleEq F_Resample_DeqD cS G_Resample z_isinstance
  have tk_Own : FnOk P w K mg base CX0 1 _ d_Own_takes ["self"] (spTkS K (clK K) (He.ga K "_law_deed") .own) := ok_ownTakes F_Own_takes T_Own n_Own_taken
  have eq_Own : FnOk P w K mg base CX0 3 _ d_Own_DeqD ["self", "other"] (spEq (RS K (clK K) (He.ga K "_law_deed") .own)) := ok_ownEq F_Own_DeqD cS G_Own z_isinstance
  have tk_Outlet : FnOk P w K mg base CX0 1 _ d_Outlet_takes ["self"] (spTkS K (clK K) (He.ga K "_law_deed") .outlet) := ok_outletTakes F_Outlet_takes 
  have eq_Outlet : FnOk P w K mg base CX0 3 _ d_Outlet_DeqD ["self", "other"] (spEq (RS K (clK K) (He.ga K "_law_deed") .outlet)) := ok_outletEq F_Outlet_DeqD cS G_Outlet z_isinstance
  have tk_Inlet : FnOk P w K mg base CX0 1 _ d_Inlet_takes ["self"] (spTkS K (clK K) (He.ga K "_law_deed") .inlet) := ok_inletTakes F_Inlet_takes 
  have eq_Inlet : FnOk P w K mg base CX0 3 _ d_Inlet_DeqD ["self", "other"] (spEq (RS K (clK K) (He.ga K "_law_deed") .inlet)) := ok_inletEq F_Inlet_DeqD cS G_Inlet z_isinstance
  have hT : ∀ A, A ∈ (sorts (clK K) (He.ga K "_law_deed") cS).As → MethC P w K mg base 1 "takes" ["self"] (spTk (sorts (clK K) (He.ga K "_law_deed") cS) A) ((sorts (clK K) (He.ga K "_law_deed") cS).cl A) := fun A _ => by
    cases (A : Srt) with
    | gain => exact ⟨_, _, c_Gain, m_Gain_takes, tk_Gain, b_Gain_takes⟩
    | mix => exact ⟨_, _, c_Mix, m_Mix_takes, tk_Mix, b_Mix_takes⟩
    | times => exact ⟨_, _, c_Times, m_Times_takes, tk_Times, b_Times_takes⟩
    | choose => exact ⟨_, _, c_Choose, m_Choose_takes, tk_Choose, b_Choose_takes⟩
    | up => exact ⟨_, _, c_Up, m_Up_takes, tk_Up, b_Up_takes⟩
    | down => exact ⟨_, _, c_Down, m_Down_takes, tk_Down, b_Down_takes⟩
    | resample => exact ⟨_, _, c_Resample, m_Resample_takes, tk_Resample, b_Resample_takes⟩
    | own => exact ⟨_, _, c_Own, m_Own_takes, tk_Own, b_Own_takes⟩
    | outlet => exact ⟨_, _, c_Outlet, m_Outlet_takes, tk_Outlet, b_Outlet_takes⟩
    | inlet => exact ⟨_, _, c_Inlet, m_Inlet_takes, tk_Inlet, b_Inlet_takes⟩
  have hEq : ∀ A, EqC P w K mg base 3 (RS K (clK K) (He.ga K "_law_deed") A) (clK K A) := fun A => by
    cases A with
    | gain => exact ⟨_, _, _, eq_Gain, (eqB_ok x_eq_Gain).1, (eqB_ok x_eq_Gain).2, b_Gain_DeqD⟩
    | mix => exact ⟨_, _, _, eq_Mix, (eqB_ok x_eq_Mix).1, (eqB_ok x_eq_Mix).2, b_Mix_DeqD⟩
    | times => exact ⟨_, _, _, eq_Times, (eqB_ok x_eq_Times).1, (eqB_ok x_eq_Times).2, b_Times_DeqD⟩
    | choose => exact ⟨_, _, _, eq_Choose, (eqB_ok x_eq_Choose).1, (eqB_ok x_eq_Choose).2, b_Choose_DeqD⟩
    | up => exact ⟨_, _, _, eq_Up, (eqB_ok x_eq_Up).1, (eqB_ok x_eq_Up).2, b_Up_DeqD⟩
    | down => exact ⟨_, _, _, eq_Down, (eqB_ok x_eq_Down).1, (eqB_ok x_eq_Down).2, b_Down_DeqD⟩
    | resample => exact ⟨_, _, _, eq_Resample, (eqB_ok x_eq_Resample).1, (eqB_ok x_eq_Resample).2, b_Resample_DeqD⟩
    | own => exact ⟨_, _, _, eq_Own, (eqB_ok x_eq_Own).1, (eqB_ok x_eq_Own).2, b_Own_DeqD⟩
    | outlet => exact ⟨_, _, _, eq_Outlet, (eqB_ok x_eq_Outlet).1, (eqB_ok x_eq_Outlet).2, b_Outlet_DeqD⟩
    | inlet => exact ⟨_, _, _, eq_Inlet, (eqB_ok x_eq_Inlet).1, (eqB_ok x_eq_Inlet).2, b_Inlet_DeqD⟩
  have TW : WvC K (He.ga K "Weave") := ⟨c_Weave, n_Weave_named, n_Weave_leading, n_Weave_laid, n_Weave_leaving⟩
  have Gnm := ok_isName (P := P) (w := w) (mg := mg) (base := base) F_is_name z_LETTERS z_LONGEST_NAME z_isinstance z_str z_len z_all
  have Gon := ok_oneOf (P := P) (w := w) (mg := mg) (base := base) F_is_one_of z_isinstance z_str
  have Gna := ok_named (P := P) (w := w) (base := base) (sorts (clK K) (He.ga K "_law_deed") cS) F_nodes_by_name Gnm g_is_name F_is_name.kp b_is_name G_Node z_isinstance
  have Gck := ok_check (sorts (clK K) (He.ga K "_law_deed") cS) F_check_wire Gon g_is_one_of F_is_one_of.kp b_is_one_of G1 g_is_whole_within F_is_whole_within.kp b_is_whole_within hT G_Outlet z_MOST_DELAY z_isinstance z_len
  have Gle := ok_lead (sorts (clK K) (He.ga K "_law_deed") cS) F_wires_by_goal Gck g_check_wire F_check_wire.kp b_check_wire hT z_enumerate z_len
  have Gba := ok_bare (P := P) (w := w) (mg := mg) (base := base) F_refuse_bare z_enumerate
  have Glv := ok_leav (P := P) (w := w) (mg := mg) (base := base) F_wires_by_source z_enumerate
  have Gre := ok_reached (P := P) (w := w) (mg := mg) (base := base) F_all_reached z_list
  have Gun := ok_unfed (sorts (clK K) (He.ga K "_law_deed") cS) F_refuse_unfed Gre g_all_reached F_all_reached.kp b_all_reached G_Inlet z_isinstance
  have Gwi := ok_wvInit (sorts (clK K) (He.ga K "_law_deed") cS) F_Weave_DinitD Gna g_nodes_by_name F_nodes_by_name.kp b_nodes_by_name Gle g_wires_by_goal F_wires_by_goal.kp b_wires_by_goal Gba g_refuse_bare F_refuse_bare.kp b_refuse_bare Glv g_wires_by_source F_wires_by_source.kp b_wires_by_source Gun g_refuse_unfed F_refuse_unfed.kp b_refuse_unfed z_MOST_NODES z_MOST_WIRES z_len c_Weave n_Weave_named n_Weave_leading n_Weave_laid n_Weave_leaving
  have gw_names := ok_wvNames (P := P) (w := w) (mg := mg) (base := base) (sorts (clK K) (He.ga K "_law_deed") cS) F_Weave_names TW z_list
  have gw_DlenD := ok_wvLen (P := P) (w := w) (mg := mg) (base := base) (sorts (clK K) (He.ga K "_law_deed") cS) F_Weave_DlenD TW z_len
  have Gta := ok_take (P := P) (w := w) (mg := mg) (base := base) F__law_take z_divmod
  have Gpo := ok_pot (P := P) (w := w) (mg := mg) (base := base) F__law_pot z_max z_len
  have Gpi := ok_pick F__law_pick Gta g__law_take F__law_take.kp b__law_take z_len
  have Gln := ok_lName F__law_name Gta g__law_take F__law_take.kp b__law_take z_range
  have Gsp := ok_spec F__law_spec Gta g__law_take F__law_take.kp b__law_take z_range z_tuple
  have Gtk := ok_takes (P := P) (w := w) (mg := mg) (base := base) F__law_takes
  have Gtu := ok_turned F__law_turned Gta g__law_take F__law_take.kp b__law_take z_len z_list
  have Gso := ok_sources (P := P) (w := w) (mg := mg) (base := base) F__law_sources
  have Gdr := ok_drawn F__law_drawn Gta g__law_take F__law_take.kp b__law_take Gln g__law_name F__law_name.kp b__law_name Gsp g__law_spec F__law_spec.kp b__law_spec Gtk g__law_takes F__law_takes.kp b__law_takes Gso g__law_sources F__law_sources.kp b__law_sources Gpi g__law_pick F__law_pick.kp b__law_pick Gtu g__law_turned F__law_turned.kp b__law_turned z_range z_max z_int z_len
  have Gma := ok_made (cl := clK K) F__law_made mk_Gain I_Gain G_Gain kbGain mk_Mix I_Mix G_Mix bMix vMix mk_Times I_Times G_Times bTimes vTimes mk_Choose I_Choose G_Choose bChoose vChoose mk_Up I_Up G_Up bUp vUp mk_Down I_Down G_Down bDown vDown mk_Resample I_Resample G_Resample bResample vResample mk_Own I_Own G_Own bOwn vOwn mk_Outlet I_Outlet G_Outlet b_Outlet_DinitD .nil mk_Inlet I_Inlet G_Inlet b_Inlet_DinitD .nil G__law_deed
  have Gpa := ok_pairs (cl := clK K) F__law_pairs Gma g__law_made F__law_made.kp b__law_made z_repr
  have ap : Apart K (clK K) := apart_ok x_ap
  have eb_Gain := ok_gainEqB (P := P) (w := w) (mg := mg) (base := base) (dd := (He.ga K "_law_deed")) F_Gain_DeqD cS ap G_Gain z_isinstance
  have eb_Mix := ok_mixEqB (P := P) (w := w) (mg := mg) (base := base) (dd := (He.ga K "_law_deed")) F_Mix_DeqD cS ap G_Mix z_isinstance
  have eb_Times := ok_timesEqB (P := P) (w := w) (mg := mg) (base := base) (dd := (He.ga K "_law_deed")) F_Times_DeqD cS ap G_Times z_isinstance
  have eb_Choose := ok_chooseEqB (P := P) (w := w) (mg := mg) (base := base) (dd := (He.ga K "_law_deed")) F_Choose_DeqD cS ap G_Choose z_isinstance
  have eb_Up := ok_upEqB (P := P) (w := w) (mg := mg) (base := base) (dd := (He.ga K "_law_deed")) F_Up_DeqD cS ap G_Up z_isinstance
  have eb_Down := ok_downEqB (P := P) (w := w) (mg := mg) (base := base) (dd := (He.ga K "_law_deed")) F_Down_DeqD cS ap G_Down z_isinstance
  have eb_Resample := ok_resampleEqB (P := P) (w := w) (mg := mg) (base := base) (dd := (He.ga K "_law_deed")) F_Resample_DeqD cS ap G_Resample z_isinstance
  have eb_Own := ok_ownEqB (P := P) (w := w) (mg := mg) (base := base) (dd := (He.ga K "_law_deed")) F_Own_DeqD cS ap G_Own z_isinstance
  have eb_Outlet := ok_outletEqB (P := P) (w := w) (mg := mg) (base := base) (dd := (He.ga K "_law_deed")) F_Outlet_DeqD cS ap G_Outlet z_isinstance
  have eb_Inlet := ok_inletEqB (P := P) (w := w) (mg := mg) (base := base) (dd := (He.ga K "_law_deed")) F_Inlet_DeqD cS ap G_Inlet z_isinstance
  have hEqB : ∀ A, EqCB P w K mg base 3 (RN K (clK K) (He.ga K "_law_deed") A) (clK K A) := fun A => by
    cases A with
    | gain => exact ⟨_, _, _, eb_Gain, (eqB_ok x_eq_Gain).1, (eqB_ok x_eq_Gain).2, b_Gain_DeqD⟩
    | mix => exact ⟨_, _, _, eb_Mix, (eqB_ok x_eq_Mix).1, (eqB_ok x_eq_Mix).2, b_Mix_DeqD⟩
    | times => exact ⟨_, _, _, eb_Times, (eqB_ok x_eq_Times).1, (eqB_ok x_eq_Times).2, b_Times_DeqD⟩
    | choose => exact ⟨_, _, _, eb_Choose, (eqB_ok x_eq_Choose).1, (eqB_ok x_eq_Choose).2, b_Choose_DeqD⟩
    | up => exact ⟨_, _, _, eb_Up, (eqB_ok x_eq_Up).1, (eqB_ok x_eq_Up).2, b_Up_DeqD⟩
    | down => exact ⟨_, _, _, eb_Down, (eqB_ok x_eq_Down).1, (eqB_ok x_eq_Down).2, b_Down_DeqD⟩
    | resample => exact ⟨_, _, _, eb_Resample, (eqB_ok x_eq_Resample).1, (eqB_ok x_eq_Resample).2, b_Resample_DeqD⟩
    | own => exact ⟨_, _, _, eb_Own, (eqB_ok x_eq_Own).1, (eqB_ok x_eq_Own).2, b_Own_DeqD⟩
    | outlet => exact ⟨_, _, _, eb_Outlet, (eqB_ok x_eq_Outlet).1, (eqB_ok x_eq_Outlet).2, b_Outlet_DeqD⟩
    | inlet => exact ⟨_, _, _, eb_Inlet, (eqB_ok x_eq_Inlet).1, (eqB_ok x_eq_Inlet).2, b_Inlet_DeqD⟩
  have gw_pairs := ok_wvPairs (P := P) (w := w) (mg := mg) (base := base) (sorts (clK K) (He.ga K "_law_deed") cS) F_Weave_pairs TW
  have Gwq := ok_wvEqB cS ap F_Weave_DeqD TW (insB_ok x_iW) c_Weave m_Weave_pairs gw_pairs b_Weave_pairs hEqB G_Weave z_isinstance
  have hW : EqCB P w K mg base 6 (RW K (He.ga K "_law_deed") cS (He.ga K "Weave")) (He.ga K "Weave") := ⟨_, _, _, Gwq, (eqB_ok x_wq).1, (eqB_ok x_wq).2, b_Weave_DeqD⟩
  have Gex := ok_exch F__law_exchanged Gta g__law_take F__law_take.kp b__law_take z_len z_list
  have Gnd := ok_named2 F__law_named Gpi g__law_pick F__law_pick.kp b__law_pick Gln g__law_name F__law_name.kp b__law_name z_len z_tuple
  have Got := ok_other F__law_other Gta g__law_take F__law_take.kp b__law_take Gln g__law_name F__law_name.kp b__law_name Gex g__law_exchanged F__law_exchanged.kp b__law_exchanged Gnd g__law_named F__law_named.kp b__law_named z_len
  have Gri := ok_right cS F__law_right hW (of_decide_eq_true x_ne) (of_decide_eq_true x_mo) z_repr
  exact ok_law cS F_law c_Weave hW Gdr g__law_drawn F__law_drawn.kp b__law_drawn Gpo g__law_pot F__law_pot.kp b__law_pot mk_Weave Gwi G_Weave b_Weave_DinitD Gpa g__law_pairs F__law_pairs.kp b__law_pairs Got g__law_other F__law_other.kp b__law_other Gri g__law_right F__law_right.kp b__law_right Gpi g__law_pick F__law_pick.kp b__law_pick m_Weave_names gw_names b_Weave_names gw_DlenD (eqB_ok x_wl).1 (eqB_ok x_wl).2 b_Weave_DlenD (nw_ok x_nw) z_range z_max z_min z_len z_list
end Sw
open PySem PySem.W PySem.Calls PyProof.Rows
theorem PySem.Challenge.cw_sampleweave_k28_equal_and_long_holds : PySem.Challenge.rw_sampleweave_k28_equal_and_long.Holds := by
  w_on; o_law
  refine HandSHeadRun.head_any (r := OpenLaw.row PySem.Challenge.rw_sampleweave_k28_equal_and_long) (q := view (OpenLaw.row PySem.Challenge.rw_sampleweave_k28_equal_and_long).prog [75]) (H := Sw.hk) (ob := Sw.ob) (M := 30000) (loose := Sw.loose) (d := HandSHeadRun.topDef (OpenLaw.row PySem.Challenge.rw_sampleweave_k28_equal_and_long).prog 75) (kwd := []) Sw.ob_eq
    (by kernel_rfl) (fun s => by kernel_rfl) Sw.run (by kernel_rfl) (by kernel_rfl) (by kernel_rfl) (by rfl) (by first | assumption | decide +kernel) (by decide +kernel) ⟨rfl, rfl, rfl, rfl, rfl, by decide +kernel⟩ ?hw ?hc
  case hw => w_witness2
  case hc =>
    refine L2.walk_goes (l := PySem.Challenge.rw_sampleweave_k28_equal_and_long) (n := 63) (k := 9) (x := "_law_script") (CX := L2.CX0) rfl (by decide) (by kernel_rfl) ⟨rfl, by decide, by decide⟩ ?F (fun _ _ _ _ z => z)
    intro w mg fa h Y G hmg0
    obtain ⟨K, KX, cx, c⟩ := Y
    have hmg : mg ("law" : PySem.Str) = some (.ref fa) := by
      have e : (HandSHeadRun.topDef (OpenLaw.row PySem.Challenge.rw_sampleweave_k28_equal_and_long).prog 75).name = ("law" : PySem.Str) := by kernel_rfl
      rw [← e]
      exact hmg0
    obtain ⟨fd, hb, hF⟩ := Sw.facts (P := (PySem.Challenge.rw_sampleweave_k28_equal_and_long).prog) (w := w) KX G hmg cx c
    exact ⟨K, fd, Sw.spLaw K, KX, hb, fun H a ns hl _ hS => ⟨a, ns, rfl, hS, hl, fun _ => rfl⟩, hF⟩
