import PyProof.Rows.All
import Wide.All
import OpenK.AllK
import Wide.FinOn
import KE.KStateDown
import Lean
import HandS.Base
import HandS.Call
import HandS.List
import HandS.Comp
import HandS.Ends
import HandS.Dict
import HandS.Iter
import HandS.Exc
import HandS.TryOnly
import HandS.ExcOwn
import HandS.Words
import HandS.WordsList
import HandS.WordsDict
import HandS.WordsExc
import HandS.Wide
import HandS.IsInst
import HandS.ExcIs
import HandS.Defaults
import HandS.More
import HandS.Star
import HandS.ClsMeth
import HandS.MakeKw
import HandS.MakeKwOnly
import HandS.Conv
import HandS.TupMul
import HandS.TupLe
import HandS.Flow
import HandS.Zip
import HandS.CallLocal
import HandS.Head0
import HandS.Head1
import HandS.Head2
import HandS.HeadEnd
import HandS.HeadHook1
import HandS.HeadHook2
import PyProof.ReprLen
import HandS.Walk
import HandS.Zip0
import HandS.DictComp
import HandS.OwnEq
import OpenK.KOps
import HandS.ExcField
import HandS.ExcInit
import KE.KExcIs
import HandS.Deep
import PyProof.EqKinds
import PyProof.FactsAll.dict
import KE.KDictLaws
import KE.KDictZip
import HandS.TupAny
import HandS.Style
import HandS.Codes
import HandS.Text
import HandS.Steps
import HandS.SetFor
import PySem.Challenge.RW_sampleweave_k33_first_queues
set_option Elab.async false
set_option linter.all false
set_option maxRecDepth 100000
set_option maxHeartbeats 0
namespace L2
open PySem PySem.Spec PyProof.Rows
/-! ## Own words, 1: defs that are called where no repr is under way -/
/-- as FnOk, but called only while no guard (a repr under way) is around -/
structure FnG (P : Program) (w : World) (K : PySem.W.Frag) (mg : Str → Option Value) (base : Heap) (CX : CXT) (k : Nat) (f : Addr) (fd : FuncData) (ps : List Str) (sp : Sp) : Prop where
  size : ∀ vs H Q E, sp vs H Q E → vs.length = ps.length
  goes : ∀ (A : Around) (outer : List Env) (s : Shared) (H : Hp) (args : Args) (us : List Value) (vs : List V) (Q : VK) (E : XK), Room k A → A.guards = some [] → Env0 P w K mg base A outer s H →
    BindsTo s fd args (ps.zip us) → Vals vs us → sp vs H Q E → codeAny (model P w) A (.call (.ref f) args) (CR CX outer P w H s Q E) s
section
variable {P : Program} {w : World} {K : PySem.W.Frag} {mg : Str → Option Value} {base : Heap} {CX : CXT} {k : Nat} {f : Addr} {fd : FuncData} {ps N : List Str} {sp : Sp} {x qual : Str} {params : Arguments} {body : List Stmt} {scope : Scope} {dvs : List V} {kws : List (Str × V)}
/-- a def's body, where the guards are known -/
theorem FunD.okG (F : FunD K x qual params body scope dvs kws f fd) (S : FnScope N ps scope) (size : ∀ vs H Q E, sp vs H Q E → vs.length = ps.length)
    (does : ∀ (cdv : Value) (A : Around) (outer : List Env) (s : Shared) (H : Hp) (vs : List V) (Q : VK) (E : XK), Room k (A.deeper (envOfC qual scope s.heap.objs.size f cdv)) → A.guards = some [] → sp vs H Q E →
      ∃ t, PSs (cxOf CX P w K mg base N qual scope f cdv A outer s H E) body t ∧ t { nx := fun _ H' => Q .non H', rt := Q } (start N vs) H) : FnG P w K mg base CX (k + 1) f fd ps sp := by
  obtain ⟨oc, od, dV, kV, doc, pm, an, cdv, ct, osl, rfl, lk, hcd, _, _⟩ := F.ex
  refine ⟨size, fun A outer s H args us vs Q E room guard env bind rel prom => ?_⟩
  have only : StX.Bnd CX P w K mg base (PySem.W.fnOf x qual params body scope dV kV doc pm an cdv ct) args ps A outer s H E (fun vs' H' => vs' = vs ∧ H' = H) :=
    fun A' Ex Q' h' => bind _ _ _ _ (h' s H vs us env Un.refl rfl (fun _ _ z => z) rel (size _ _ _ _ prom) ⟨rfl, rfl⟩)
  refine StX.run_bnd (k := k) lk hcd S room env only fun s2 H2 vs2 same room2 => ?_
  obtain ⟨rfl, rfl⟩ := same
  exact does cdv A outer s2 H2 vs2 Q E room2 guard prom
/-- a plain def is one of these too -/
theorem FnOk.toG (F : FnOk P w K mg base CX k f fd ps sp) : FnG P w K mg base CX k f fd ps sp := ⟨F.len, fun A outer s H args us vs Q E room _ env bind rel prom => F.run A outer s H args us vs Q E room env bind rel prom⟩
end
section
variable {X : Cx} {CX : CXT} {k i : Nat} {f : Addr} {fd : FuncData} {ps : List Str} {sp : Sp} {dvs : List V} {ds : List Value} {E : XK} {x : Str} {p pos : Pos} {e : Expr} {es : List Expr} {t : TA}
theorem goes_fn {pins : List (Addr × Obj)} {σ : St} {H : Hp} {s : Shared} {Q : VK} {us : List Value} {vs : List V} (F : FnG X.prog X.w X.K X.mg X.base CX k f fd ps sp) (room : Room k X.A) (guard : X.A.guards = some []) (hb : Binds X.K fd ps ds) (hd : Vals dvs ds)
    (hx : Passes CX X E) (I : Inv X pins σ H s) (rel : Vals vs us) (prom : sp (vs ++ dvs) H Q E) : wpAny (model X.prog X.w) X.A (call (.ref f) us) (EP X pins σ Q) X.xe s := by
  have both := rel.append hd
  have many : (us ++ ds).length = ps.length := both.length.symm.trans (F.size _ _ _ _ prom)
  refine wpAny_call (codeAny_mono (F.goes X.A X.stack s H ⟨us, []⟩ (us ++ ds) (vs ++ dvs) Q E room guard I.env0 (hb s us I.kIn many) both prom) ?_)
  rintro (_ | u | _ | _ | _ ) s' z
  all_goals first
    | exact hx pins σ H s _ s' I z
    | exact I.after z
    | exact z.elim
theorem pe_callG (F : FnG X.prog X.w X.K X.mg X.base CX k f fd ps sp) (room : Room k X.A) (guard : X.A.guards = some []) (hg : Gl X x) (hm : X.mg x = some (.ref f)) (hk : PySem.W.keepIn X.K (.ref f) = true) (hb : Binds X.K fd ps ds) (hd : Vals dvs ds)
    (hx : Passes CX X E) (ha : PA X (e :: es) t) (hdb : (x == ("__debug__" : Str)) = false := by decide) (he : starEach (e :: es) X.env = (false, eval e X.env) :: starEach es X.env := by rfl)
    (hpl : (backTo pos (starEach es X.env)).any (·.1) = false := by rfl) : PE X (.Call (.Name x p) (e :: es) [] pos) (tCall sp dvs E t) := by
  refine ⟨fun pins s σ H Q I h => wpAny_Call_Name_kw (ld_glob I hg hm ?_ hdb)⟩
  exact PySem.W.callWith_K (h₀ := X.base) I.ok.mod.kin hk (thn (ha.run pos pins s σ H _ I h) fun us s1 ⟨vs, H1, I1, r, q⟩ => ⟨I1.kIn, goes_fn F room guard hb hd hx I1 r q⟩) he hpl
end
/-- the law's call, its def being one of these -/
theorem law_goes {P : Program} {w : World} {K : PySem.W.Frag} {mg mb : Str → Option Value} {CX : CXT} {k : Nat} {fa a : Addr} {fd : FuncData} {x : Str} {sp : Sp} {s₁ : Shared} {vs : List Value} {ns : List Int}
    (inK : K.In s₁.heap) (glob : s₁.heap.Ns mainGlobals mg) (blt : s₁.heap.Ns builtinsNs mb) (boot : ∀ x : Str, x ≠ "__name__" → mb x = bootBuiltins x) (lim : s₁.heap.NoLimit) (gens : s₁.gens = #[])
    (scr : s₁.heap.get? a = some { cls := .type "list", data := .seq vs.toArray }) (nums : IntsAre vs ns) (few : ns.length ≤ sizeLine) (room : Room k callerA)
    (F : ∀ base : Heap, K.In base → base.Ns mainGlobals mg → FnG P w K mg base CX k fa fd [x] sp) (bind : ∀ (s : Shared) (u : Value), BindsTo s fd ⟨[u], []⟩ [(x, u)])
    (prom : ∀ H : Hp, Only H → SqL K H a (ns.map V.int) → sp [.ref a] H (fun v _ => v = .bl true) fun _ _ _ => False) (none_out : ∀ H e s', CX [] H s₁ (fun _ _ _ => False) e s' → False) :
    codeAny (model P w) callerA (.call (.ref fa) ⟨[.ref a], []⟩) (fun r s' => r = .ok (.ret (.bool true)) ∧ OldK s₁.heap s'.heap ∧ s'.os = s₁.os ∧ AllBare s'.gens) s₁ := by
  have rel := vals_ints nums
  have from_heap : ∀ H : Hp, (∀ b, H b = none ∨ (b = a ∧ K.lookup a = none ∧ H b = some (.frz { cls := .type "list", data := .seq vs.toArray } (.lst (ns.map V.int))))) → SqL K H a (ns.map V.int) →
      codeAny (model P w) callerA (.call (.ref fa) ⟨[.ref a], []⟩) (fun r s' => r = .ok (.ret (.bool true)) ∧ OldK s₁.heap s'.heap ∧ s'.os = s₁.os ∧ AllBare s'.gens) s₁ := by
    intro H which seen
    have small : Only H := fun b => (which b).imp id fun z => ⟨_, _, z.2.2⟩
    have space : ∀ {b : Addr} {m : Str → Option Value}, s₁.heap.Ns b m → (hidT s₁.heap H).Ns b m := by
      rintro b m ⟨o, es, ep, e, d, r⟩
      refine ⟨o, es, ep, hidT_get e ((which b).resolve_right fun ⟨eb, _⟩ => ?_), d, r⟩
      rw [eb, scr] at e
      cases e
      cases d
    have written : K.In (hidT s₁.heap H) := fun b o e => hidT_get (inK b o e) ((which b).resolve_right fun ⟨eb, n, _⟩ => by
      rw [eb, n] at e
      cases e)
    have fits : HOk P w H s₁.heap := fun b u z => by
      rcases which b with n | ⟨rfl, _, n⟩
      · rw [n] at z
        cases z
      · rw [n] at z
        cases z
        exact ⟨scr, by rw [List.length_map]; exact few, vs, _, rel, scr⟩
    obtain ⟨mc, c1, c2⟩ := lim
    have env : Env0 P w K mg (hidT s₁.heap H) callerA [] s₁ H :=
      ⟨rfl, ⟨written, space glob, ⟨mb, space blt, boot⟩, mc, space c1, c2⟩, fun _ _ e => of_hidT e, Nat.le_of_eq (hidT_size _ _), trivial, fun _ z => (List.not_mem_nil z).elim, fits, .of_eq gens⟩
    refine codeAny_mono ((F _ written (space glob)).goes callerA [] s₁ H ⟨[.ref a], []⟩ [.ref a] [.ref a] _ _ room rfl env (bind s₁ (.ref a)) (.cons rfl .nil) (prom H small seen)) ?_
    intro res s' z
    match res, z with
    | .error e, z => exact (none_out H e s' z).elim
    | .ok .next, z => exact z.elim
    | .ok .brk, z => exact z.elim
    | .ok .cont, z => exact z.elim
    | .ok (.ret u), z =>
      obtain ⟨v, H', os, bare, un, fits', rv, (rfl : v = V.bl true)⟩ := z
      obtain rfl : u = Value.bool true := rv
      refine ⟨rfl, OldK.of_keep fun b o e => ?_, os, bare⟩
      rcases which b with n | ⟨_, _, n⟩
      · exact un.keep b o e n (fun z => (List.not_mem_nil z).elim) List.not_mem_nil
      · obtain ⟨e1, _⟩ := fits b _ n
        obtain ⟨e2, _⟩ := fits' b _ (un.frzs b _ _ n)
        rw [e] at e1
        cases e1
        exact e2
  by_cases own : K.lookup a = none
  · refine from_heap (fun b => if b = a then some (.frz { cls := .type "list", data := .seq vs.toArray } (.lst (ns.map V.int))) else none) (fun b => ?_) (.inl (.inr ⟨_, if_pos rfl⟩))
    by_cases eb : b = a
    · exact .inr ⟨eb, own, if_pos eb⟩
    · exact .inl (if_neg eb)
  · obtain ⟨o, own⟩ := Option.ne_none_iff_exists'.mp own
    have e := inK a o own
    rw [scr] at e
    cases e
    exact from_heap (fun _ => none) (fun _ => .inl rfl) (.inr ⟨_, vs.toArray, _, own, rfl, rfl, rfl, by rw [List.size_toArray, nums.length]; exact few, by simpa using rel⟩)
theorem walk_goes {l : PySem.W.OpenLaw} {n k : Nat} {q : Program} {loose : List Str} {XP : (Str → Option Value) → Heap → Prop} {YP : World → Heap → Prop} {d : DefRec} {CX : CXT} {x : Str}
    (most : l.most = some n) (few : n ≤ sizeLine) (nodef : d.params.defaults = []) (room : Room k callerA)
    (F : ∀ (w : World) (mg : Str → Option Value) (fa : Addr) (h : Heap), YP w h → h.Ns mainGlobals mg → mg d.name = some (.ref fa) →
      ∃ (K : PySem.W.Frag) (fd : FuncData) (sp : Sp), K.In h ∧ (∀ (s : Shared) (u : Value), BindsTo s fd ⟨[u], []⟩ [(x, u)]) ∧
        (∀ (H : Hp) (a : Addr) (ns : List Int), ns.length ≤ n → Only H → SqL K H a (ns.map V.int) → sp [.ref a] H (fun v _ => v = .bl true) fun _ _ _ => False) ∧
        ∀ base : Heap, K.In base → base.Ns mainGlobals mg → FnG l.prog w K mg base CX k fa fd [x] sp)
    (none_out : ∀ (H : Hp) (s : Shared) (e : Value) (s' : Shared), CX [] H s (fun _ _ _ => False) e s' → False) : PySem.W.WalkO q loose XP YP l.row.toRowW d [] (fun f vs => PySem.call f vs) := by
  refine Att.attach_call most nodef ?_
  intro w s₀ s₁ mg mb fa o pm cd doc a vs ns G Y ho hd hcd named obj nums len gens
  obtain ⟨K, fd, sp, inK, bind, prom, does⟩ := F w mg fa _ Y G.T.g named
  exact law_goes inK G.T.g G.T.b G.T.builtins G.T.nolimit gens obj nums (Nat.le_trans len few) room does bind (fun H hO hS => prom H a ns len hO hS) fun H e s' => none_out H s₁ e s'
end L2
namespace L2
open PySem PySem.Spec PyProof.Rows
/-! ## Own words, 2: repr of data; a base class's def called by the class's name -/
section
variable {X : Cx}
/-- repr(x), x a list or a tuple of data -/
def rReprD (K : PySem.W.Frag) : List V → Hp → VK → Prop := fun xs H Q => ∃ (a : Addr) (d : PyData) (S : Str), xs = [.ref a] ∧ Dp K H (.ref a) d ∧ SeqAt.shaped d = true ∧ d.showable = true ∧ d.shown.length ≤ sizeLine ∧ d.shown = S ∧ Q (.str S) H
theorem call_reprD (guard : X.A.guards = some []) (units : X.A.units + 66 < cLine) : CallR X (.builtin "repr") (rReprD X.K) := by
  intro pins s σ H xs us Q I r h
  obtain ⟨a, d, S, rfl, dp, sh, sw, sz, rfl, q⟩ := h
  obtain ⟨u, rfl, ru⟩ := vals1 r
  obtain rfl : u = Value.ref a := ru
  obtain ⟨as, rd⟩ := Dp.reads I d _ _ dp rfl
  have dep := SeqAt.depth_of_shaped sh
  exact repr_of_reads' rd sw (PyData.noDict_hsm (PyData.hasDict_of_canLay d (SeqAt.canLay_of_shaped sh))) guard (by omega) (fun _ _ e => e) (fun h' u tk hk => ⟨.str d.shown, H, I.kept (t' := tk) hk, ⟨u, rfl⟩, q⟩) sz
/-- C.m(e, ..), C a class of one's own by name, m a def of its body -/
structure BaseM (K : PySem.W.Frag) (C : Addr) (m : Str) (f : Addr) : Prop where
  rd : PySem.W.readsIn K C (.type "type") = true
  ga : PySem.W.specialIn K (.ref C) "__getattribute__" = some (some (.builtin "type.__getattribute__"))
  at_ : PySem.W.findCls K (.ref C) (.type "type") m = some (.val (.ref f))
  kp : PySem.W.keepIn K (.ref f) = true
variable {CX : CXT} {k : Nat} {f C : Addr} {fd : FuncData} {ps : List Str} {sp : Sp} {dvs : List V} {ds : List Value} {E : XK} {x m : Str} {p pos apos : Pos} {e o : Expr} {es : List Expr} {ta : TE} {t : TA}
def tBase (C : Addr) (sp : Sp) (dvs : List V) (E : XK) (ta : TE) (t : TA) : TE := fun σ H Q => ta σ H fun x H1 => x = .ref C ∧ t σ H1 fun vs H2 => sp (vs ++ dvs) H2 Q E
theorem pe_base {pl : Sem Bool} (ho : PE X o ta) (b : BaseM X.K C m f) (F : FnOk X.prog X.w X.K X.mg X.base CX k f fd ps sp) (room : Room k X.A) (hb : Binds X.K fd ps ds) (hd : Vals dvs ds) (hx : Passes CX X E) (ha : PA X (e :: es) t)
    (hst : starEach (e :: es) X.env = (false, eval e X.env) :: starEach es X.env := by rfl) (hpl : (backTo pos (starEach es X.env)).any (·.1) = false := by rfl)
    (ht : eval (.Call (.Attribute o m apos) (e :: es) [] pos) X.env = (do
      let ov ← eval o X.env
      standAt apos.atName
      let (f, first) ← holding [ov] (getMethod ov m pl)
      callWith pos f first (backTo pos (starEach (e :: es) X.env)) (backToKw pos (keywordEach [] X.env))) := by rfl) :
    PE X (.Call (.Attribute o m apos) (e :: es) [] pos) (tBase C sp dvs E ta t) := by
  refine ⟨fun pins s σ H Q I h => ?_⟩
  refine PySem.W.methodCall_KW (pl := pl) (thn (ho.run pins s σ H _ I h) fun u s1 ⟨x, H1, I1, rx, ex, q⟩ => ?_) ht
  subst ex
  obtain rfl : u = Value.ref C := rx
  refine PySem.W.method_cls I1.kIn b.ga (PySem.W.cls_value I1.kIn b.rd b.at_ rfl ?_)
  have I2 := I1.tok (s1.toks + 1)
  exact PySem.W.callWith_K (first := []) (h₀ := X.base) I.ok.mod.kin b.kp (thn (ha.run pos pins _ σ H1 _ I2 q) fun us s2 ⟨vs, H2, I3, r, q2⟩ => ⟨I3.kIn, run_fn F room hb hd hx I3 r q2⟩) hst hpl
end
/-! ### how long a repr is -/
theorem shown_sum {B : Nat} : ∀ ds : List PyData, (∀ d ∈ ds, d.shown.length ≤ B) → ((PyData.shownAll ds).map (·.length)).sum ≤ B * ds.length
  | [], _ => by rw [PyData.shownAll]; exact Nat.zero_le _
  | d :: ds, h => by
    have h1 := h d List.mem_cons_self
    have h2 := shown_sum ds fun z hz => h z (List.mem_cons_of_mem _ hz)
    rw [PyData.shownAll, List.map_cons, List.sum_cons, List.length_cons, Nat.mul_succ]
    omega
theorem shown_list {B : Nat} {ds : List PyData} (h : ∀ d ∈ ds, d.shown.length ≤ B) : (PyData.shown (.list ds)).length ≤ (B + 2) * ds.length + 3 := by
  have h1 := shown_sum ds h
  have h2 := listText_len_le (PyData.shownAll ds)
  rw [PyData.shownAll_length] at h2
  rw [PyData.shown, Nat.add_mul]
  omega
theorem shown_tuple {B : Nat} {ds : List PyData} (h : ∀ d ∈ ds, d.shown.length ≤ B) : (PyData.shown (.tuple ds)).length ≤ (B + 2) * ds.length + 3 := by
  have h1 := shown_sum ds h
  have h2 := tupleText_len_le (PyData.shownAll ds)
  rw [PyData.shownAll_length] at h2
  rw [PyData.shown, Nat.add_mul]
  omega
theorem shown_num {i : Int} (h : i.natAbs.log2 < 1920) : (PyData.shown (.int i)).length ≤ 1921 := by
  exact int_text_len_1921 h
theorem log2_of {i : Int} {b : Nat} (h : i.natAbs < 2 ^ b) (h0 : 0 < b) (h1 : b ≤ 1920) : i.natAbs.log2 < 1920 := Nat.lt_of_lt_of_le (PySem.Flt.log2_lt_of h0 h) h1
end L2
namespace L2
open PySem PySem.Spec PyProof.Rows
/-! ## Own words, 3: a method called in a try; a local that holds one of some defs -/
section
variable {X : Cx} {CX : CXT} {k i : Nat} {f C : Addr} {fd : FuncData} {ps : List Str} {sp : Sp} {E : St → XK} {x m : Str} {p pos apos : Pos} {e o : Expr} {es : List Expr} {ta : TE} {t : TA}
def tMethT (C : Addr) (m : Str) (sp : Sp) (E : St → XK) (ta : TE) (t : TA) : TE := fun σ H Q => ta σ H fun x H1 => ∃ a dx fs, x = .ref a ∧ H1 a = some (.ins C dx fs) ∧ fs.lookup m = none ∧ t σ H1 fun vs H2 => sp (x :: vs) H2 Q (E σ)
theorem pe_methT {pl : Sem Bool} (ho : PE X o ta) (c : Cls X.K C) (hm : Meth X.K C m f) (F : FnOk X.prog X.w X.K X.mg X.base CX k f fd ps sp) (room : Room k X.A) (hb : Binds X.K fd ps []) (hx : ∀ σ, PassesAt CX X σ (E σ)) (ha : PA X (e :: es) t)
    (hst : starEach (e :: es) X.env = (false, eval e X.env) :: starEach es X.env := by rfl) (hpl : (backTo pos (starEach es X.env)).any (·.1) = false := by rfl)
    (ht : eval (.Call (.Attribute o m apos) (e :: es) [] pos) X.env = (do
      let ov ← eval o X.env
      standAt apos.atName
      let (f, first) ← holding [ov] (getMethod ov m pl)
      callWith pos f first (backTo pos (starEach (e :: es) X.env)) (backToKw pos (keywordEach [] X.env))) := by rfl) :
    PE X (.Call (.Attribute o m apos) (e :: es) [] pos) (tMethT C m sp E ta t) := by
  refine ⟨fun pins s σ H Q I h => ?_⟩
  refine PySem.W.methodCall_KW (pl := pl) (thn (ho.run pins s σ H _ I h) fun u s1 ⟨x, H1, I1, rx, a, dx, fs, ex, ea, l, q⟩ => ?_) ht
  subst ex
  obtain rfl : u = Value.ref a := rx
  refine getmeth_ok I1 ea c hm l (PySem.W.callWith_K (first := [.ref a]) (h₀ := X.base) I.ok.mod.kin hm.kp (thn (ha.run pos pins s1 σ H1 _ I1 q) fun us s2 ⟨vs, H2, I2, r, q2⟩ => ⟨I2.kIn, ?_⟩) hst hpl)
  exact run_fnS (us := .ref a :: us) (vs := .ref a :: vs) F room hb (hx σ) I2 (.cons rfl r) q2
/-- the i-th slot holds one of these defs, all of one promise -/
def tOneOf (i : Nat) (fs : List Addr) (sp : Sp) (t : TA) : TE := fun σ H Q => ∃ f, f ∈ fs ∧ σ[i]? = some (some (.ref f)) ∧ t σ H fun vs H1 => sp vs H1 Q E0
theorem pe_oneOf {fs : List Addr} (F : ∀ f, f ∈ fs → ∃ fd ps, FnG X.prog X.w X.K X.mg X.base CX0 k f fd ps sp ∧ PySem.W.keepIn X.K (.ref f) = true ∧ Binds X.K fd ps []) (room : Room k X.A) (guard : X.A.guards = some []) (hN : X.N[i]? = some x) (hv : Vis X.env.scope x) (ha : PA X (e :: es) t)
    (hdb : (x == ("__debug__" : Str)) = false := by decide) (hcd : (x == ("__classdict__" : Str)) = false := by decide) (he : starEach (e :: es) X.env = (false, eval e X.env) :: starEach es X.env := by rfl)
    (hpl : (backTo pos (starEach es X.env)).any (·.1) = false := by rfl) : PE X (.Call (.Name x p) (e :: es) [] pos) (tOneOf i fs sp t) := by
  refine ⟨fun pins s σ H Q I h => ?_⟩
  obtain ⟨f, hf, hs, q0⟩ := h
  obtain ⟨fd, ps, G, kp, hb⟩ := F f hf
  have look := (pe_var (pos := p) hN hv hdb hcd).run pins s σ H (fun v H1 => v = .ref f ∧ H1 = H) I ⟨.ref f, hs, rfl, rfl⟩
  refine wpAny_Call_Name_kw (thn look fun u s1 ⟨v, H1, I1, r1, ev, eH⟩ => ?_)
  subst ev eH
  obtain rfl : u = Value.ref f := r1
  refine PySem.W.callWith_K (h₀ := X.base) I.ok.mod.kin kp (thn (ha.run pos pins s1 σ _ _ I1 q0) fun us s2 ⟨vs, H2, I2, r, q⟩ => ⟨I2.kIn, ?_⟩) he hpl
  exact goes_fn (dvs := []) (E := E0) G room guard hb .nil pass0 I2 r (by rw [List.append_nil]; exact q)
end
end L2
namespace L2
open PySem PySem.Spec PyProof.Rows
/-! ## Own words, 4: a tuple times 0 or 1 -/
theorem tup_once (l : Addr) (items : Array Value) (n : Nat) (dd : Option Addr) (sl : Array (Option Value)) (u : Tok) :
    Meets (Builtin.«tuple.__mul__» ⟨[.ref l, .int 1 u], []⟩) (fun _ R s => s.heap.get? l = some { cls := .type "tuple", dict := dd, data := .seq items n, slots := sl } ∧ R (.ok (.ret (Value.ref l))) s) :=
  .of_wp fun prog w A R s h => by
    obtain ⟨hp, g, d, tk, os⟩ := s
    obtain ⟨at_, h⟩ := h
    have f1 := AutoSeq1.idx_int
    wp_walk using wpAny_loadPart' at_
    exact ⟨_, rfl, h⟩
theorem tup_never (l : Addr) (items : Array Value) (n : Nat) (dd : Option Addr) (sl : Array (Option Value)) (u : Tok) (c1 : items.isEmpty = false) :
    Meets (Builtin.«tuple.__mul__» ⟨[.ref l, .int 0 u], []⟩) (fun _ R s => s.heap.get? l = some { cls := .type "tuple", dict := dd, data := .seq items n, slots := sl } ∧ R (.ok (.ret (Value.ref s.heap.objs.size))) { s with heap := s.heap.push { cls := Value.type "tuple", data := Data.seq #[] }, toks := s.toks }) :=
  .of_wp fun prog w A R s h => by
    obtain ⟨hp, g, d, tk, os⟩ := s
    obtain ⟨at_, h⟩ := h
    have f1 := AutoSeq1.idx_int
    wp_walk using wpAny_loadPart' at_
    exact ⟨_, rfl, h⟩
/-- t * k, t a tuple that holds something, k from 0 on -/
def rTimes (K : PySem.W.Frag) : R2 := fun x y H Q => ∃ (l : Addr) (k : Nat) (xs : List V), x = .ref l ∧ y = .int (k : Int) ∧ SqT K H l xs ∧ xs ≠ [] ∧ k ≤ 1000 ∧ xs.length ≤ 1000 ∧ (k = 1 → Q (.ref l) H) ∧ (k ≠ 1 → ∀ p, H p = none → Q (.ref p) (upd H p (.tup (List.replicate k xs).flatten)))
theorem op_times {X : Cx} : OpR X (binaryOp .Mult) (rTimes X.K) := by
  intro pins s σ H x y v u Q I rx ry h
  obtain ⟨l, k, xs, rfl, rfl, hT, hne, h2, hz, q1, qn⟩ := h
  by_cases two : 2 ≤ k
  · exact op_repT pins s σ H _ _ v u Q I rx ry ⟨l, (k : Int), xs, rfl, rfl, hT, hne, by omega, by omega, hz, fun p hp => qn (by omega) p hp⟩
  · cases rx
    obtain ⟨t, rfl⟩ := ry
    obtain ⟨its, r, ⟨⟨cls, dd, data, sl⟩, ho, hc, n, hd⟩, hs⟩ := I.tuple hT
    simp only at hc hd
    subst hc hd
    have which : k = 0 ∨ k = 1 := by omega
    rcases which with rfl | rfl
    · have some_ : its.toArray.isEmpty = false := by
        cases its with
        | nil =>
          have e := r.length
          cases xs with
          | nil => exact absurd rfl hne
          | cons _ _ => cases e
        | cons _ _ => rfl
      refine wpAny_binaryOp_repeat_ref (T := "tuple") (U := "int") (by decide) ⟨_, ho, rfl⟩ (fun s' => typeIs_int s' 0 t) noFill_tuple_mul F.fills_int_mul F.slot_int_rmul repeat_tuple F.slot_int_index.lookup ?_
      refine call_meets F.slot_int_rmul (typeIs_int s 0 t) F.entry_int_rmul (F.args_int_rmul_2 _ _) (int_rmul_tuple 0 t l its.toArray n dd sl) ⟨ho, rfl, ⟨_, ho, rfl⟩, ?_⟩
      refine call_meets F.slot_tuple_mul ⟨_, ho, rfl⟩ F.entry_tuple_mul (F.args_tuple_mul_2 _ _) (tup_never l its.toArray n dd sl t some_) ⟨ho, ?_⟩
      have fresh := I.hok.fresh (Nat.le_refl s.heap.objs.size)
      refine ⟨.ref s.heap.objs.size, _, I.laid (t' := s.toks) (o := .tup []) (fun b ob q => Heap.get?_push_of_some _ q) (Nat.le_refl _) ?_, rfl, qn (by decide) _ fresh⟩
      exact ⟨Nat.zero_le _, [], .nil, IsTup.new _ _⟩
    · refine wpAny_binaryOp_repeat_ref (T := "tuple") (U := "int") (by decide) ⟨_, ho, rfl⟩ (fun s' => typeIs_int s' 1 t) noFill_tuple_mul F.fills_int_mul F.slot_int_rmul repeat_tuple F.slot_int_index.lookup ?_
      refine call_meets F.slot_int_rmul (typeIs_int s 1 t) F.entry_int_rmul (F.args_int_rmul_2 _ _) (int_rmul_tuple 1 t l its.toArray n dd sl) ⟨ho, rfl, ⟨_, ho, rfl⟩, ?_⟩
      refine call_meets F.slot_tuple_mul ⟨_, ho, rfl⟩ F.entry_tuple_mul (F.args_tuple_mul_2 _ _) (tup_once l its.toArray n dd sl t) ⟨ho, ?_⟩
      exact ⟨.ref l, H, I, rfl, q1 rfl⟩
end L2
namespace L2
open PySem PySem.Spec PyProof.Rows
/-! ## Own words, 5: one of two promises; the call of a value -/
section
variable {P : Program} {w : World} {K : PySem.W.Frag} {mg : Str → Option Value} {base : Heap} {CX : CXT} {k : Nat} {f : Addr} {fd : FuncData} {ps : List Str} {sp sp' : Sp}
theorem FnG.or (F : FnG P w K mg base CX k f fd ps sp) (F' : FnG P w K mg base CX k f fd ps sp') : FnG P w K mg base CX k f fd ps (fun vs H Q E => sp vs H Q E ∨ sp' vs H Q E) := by
  refine ⟨fun vs H Q E h => h.elim (F.size vs H Q E) (F'.size vs H Q E), fun A outer s H args us vs Q E room guard env bind rel h => ?_⟩
  rcases h with h | h
  · exact F.goes A outer s H args us vs Q E room guard env bind rel h
  · exact F'.goes A outer s H args us vs Q E room guard env bind rel h
theorem FnOk.or (F : FnOk P w K mg base CX k f fd ps sp) (F' : FnOk P w K mg base CX k f fd ps sp') : FnOk P w K mg base CX k f fd ps (fun vs H Q E => sp vs H Q E ∨ sp' vs H Q E) := by
  refine ⟨fun vs H Q E h => h.elim (F.len vs H Q E) (F'.len vs H Q E), fun A outer s H args us vs Q E room env bind rel h => ?_⟩
  rcases h with h | h
  · exact F.run A outer s H args us vs Q E room env bind rel h
  · exact F'.run A outer s H args us vs Q E room env bind rel h
end
section
variable {X : Cx} {k : Nat} {sp : Sp} {pos : Pos} {fe e : Expr} {es : List Expr} {tf : TE} {t : TA}
def tCallOf (fs : List Addr) (sp : Sp) (tf : TE) (t : TA) : TE := fun σ H Q => tf σ H fun y H1 => ∃ f, f ∈ fs ∧ y = .ref f ∧ t σ H1 fun vs H2 => sp vs H2 Q E0
theorem pe_callOf {fs : List Addr} (hf : PE X fe tf) (F : ∀ f, f ∈ fs → ∃ fd ps, FnOk X.prog X.w X.K X.mg X.base CX0 k f fd ps sp ∧ PySem.W.keepIn X.K (.ref f) = true ∧ Binds X.K fd ps []) (room : Room k X.A) (ha : PA X (e :: es) t)
    (ht : eval (.Call fe (e :: es) [] pos) X.env = (do callWith pos (← eval fe X.env) [] (backTo pos (starEach (e :: es) X.env)) (backToKw pos (keywordEach [] X.env))) := by rfl)
    (he : starEach (e :: es) X.env = (false, eval e X.env) :: starEach es X.env := by rfl) (hpl : (backTo pos (starEach es X.env)).any (·.1) = false := by rfl) : PE X (.Call fe (e :: es) [] pos) (tCallOf fs sp tf t) := by
  refine ⟨fun pins s σ H Q I h => ?_⟩
  refine Call_ (thn (hf.run pins s σ H _ I h) fun u s1 ⟨y, H1, I1, ry, f, hm, ey, q⟩ => ?_) ht
  subst ey
  obtain rfl : u = Value.ref f := ry
  obtain ⟨fd, ps, G, kp, hb⟩ := F f hm
  refine PySem.W.callWith_K (h₀ := X.base) I.ok.mod.kin kp (thn (ha.run pos pins s1 σ H1 _ I1 q) fun us s2 ⟨vs, H2, I2, r, q2⟩ => ⟨I2.kIn, ?_⟩) he hpl
  exact run_fn (dvs := []) (E := E0) G room hb .nil pass0 I2 r (by rw [List.append_nil]; exact q2)
end
end L2
universe u
namespace L2
open PySem PySem.Spec PyProof.Rows
/-! ## Own words, 6: a method of an object of one of some sorts; isinstance against a base class -/
/-- a sort's method and its promise -/
structure MethC (P : Program) (w : World) (K : PySem.W.Frag) (mg : Str → Option Value) (base : Heap) (k : Nat) (m : Str) (ps : List Str) (sp : Sp) (C : Addr) : Prop where
  ex : ∃ f fd, Cls K C ∧ Meth K C m f ∧ FnOk P w K mg base CX0 k f fd ps sp ∧ Binds K fd ps []
section
variable {X : Cx} {k : Nat} {α : Type u} {As : List α} {cl : α → Addr} {sp : α → Sp} {m : Str} {ps : List Str} {pos apos : Pos} {o e : Expr} {es : List Expr} {ta : TE} {t : TA}
def tMethOf (As : List α) (cl : α → Addr) (m : Str) (sp : α → Sp) (ta : TE) (t : TA) : TE := fun σ H Q => ta σ H fun x H1 => ∃ (A : α) (a dx : Addr) (fs : List (Str × V)), A ∈ As ∧ x = .ref a ∧ H1 a = some (.ins (cl A) dx fs) ∧ fs.lookup m = none ∧ t σ H1 fun vs H2 => sp A (x :: vs) H2 Q E0
theorem pe_methOf {pl : Sem Bool} (he : PE X o ta) (F : ∀ A, A ∈ As → MethC X.prog X.w X.K X.mg X.base k m ps (sp A) (cl A)) (hr : Room k X.A) (ha : PA X (e :: es) t)
    (hst : starEach (e :: es) X.env = (false, eval e X.env) :: starEach es X.env := by rfl) (hpl : (backTo pos (starEach es X.env)).any (·.1) = false := by rfl)
    (ht : eval (.Call (.Attribute o m apos) (e :: es) [] pos) X.env = (do
      let ov ← eval o X.env
      standAt apos.atName
      let (f, first) ← holding [ov] (getMethod ov m pl)
      callWith pos f first (backTo pos (starEach (e :: es) X.env)) (backToKw pos (keywordEach [] X.env))) := by rfl) :
    PE X (.Call (.Attribute o m apos) (e :: es) [] pos) (tMethOf As cl m sp ta t) := by
  refine ⟨fun pins s σ H Q I h => ?_⟩
  refine PySem.W.methodCall_KW (pl := pl) (thn (he.run pins s σ H _ I h) fun u s1 ⟨x, H1, I1, rx, A, a, dx, fs, hA, ex, ea, l, q⟩ => ?_) ht
  subst ex
  obtain rfl : u = Value.ref a := rx
  obtain ⟨f, fd, c, hm, G, hb⟩ := (F A hA).ex
  refine getmeth_ok I1 ea c hm l ?_
  refine PySem.W.callWith_K (first := [.ref a]) (h₀ := X.base) I.ok.mod.kin hm.kp (thn (ha.run pos pins s1 σ H1 _ I1 q) fun us s2 ⟨vs, H2, I2, r, q2⟩ => ⟨I2.kIn, ?_⟩) hst hpl
  exact run_fn (us := .ref a :: us) (vs := .ref a :: vs) (dvs := []) (E := E0) G hr hb .nil pass0 I2 (.cons rfl r) (by rw [List.append_nil]; exact q2)
theorem pe_methOf0 {pl : Sem Bool} (he : PE X o ta) (F : ∀ A, A ∈ As → MethC X.prog X.w X.K X.mg X.base k m ps (sp A) (cl A)) (hr : Room k X.A)
    (ht : eval (.Call (.Attribute o m apos) [] [] pos) X.env = (do
      let ov ← eval o X.env
      standAt apos.atName
      let (f, first) ← holding [ov] (getMethod ov m pl)
      callWith pos f first (backTo pos (starEach [] X.env)) (backToKw pos (keywordEach [] X.env))) := by rfl) :
    PE X (.Call (.Attribute o m apos) [] [] pos) (tMethOf As cl m sp ta tNil) := by
  refine ⟨fun pins s σ H Q I h => ?_⟩
  refine PySem.W.methodCall_KW (pl := pl) (thn (he.run pins s σ H _ I h) fun u s1 ⟨x, H1, I1, rx, A, a, dx, fs, hA, ex, ea, l, q⟩ => ?_) ht
  subst ex
  obtain rfl : u = Value.ref a := rx
  obtain ⟨f, fd, c, hm, G, hb⟩ := (F A hA).ex
  refine getmeth_ok I1 ea c hm l ?_
  exact PySem.W.callWith_K0 (first := [.ref a]) I1.kIn hm.kp (run_fn (us := [.ref a]) (vs := [.ref a]) (dvs := []) (E := E0) G hr hb .nil pass0 I1 (.cons rfl .nil) q)
end
section
variable {P : Program} {w : World} {K : PySem.W.Frag} {mg : Str → Option Value} {base : Heap} {CX : CXT} {k : Nat} {f : Addr} {fd : FuncData} {ps : List Str} {α : Type u} {As : List α} {sp : α → Sp}
theorem FnG.any (F : ∀ A, A ∈ As → FnG P w K mg base CX k f fd ps (sp A)) : FnG P w K mg base CX k f fd ps (fun vs H Q E => ∃ A, A ∈ As ∧ sp A vs H Q E) :=
  ⟨fun vs H Q E ⟨A, hA, h⟩ => (F A hA).size vs H Q E h, fun A outer s H args us vs Q E room guard env bind rel ⟨B, hB, h⟩ => (F B hB).goes A outer s H args us vs Q E room guard env bind rel h⟩
end
/-- what isinstance(o, CN) asks of o's class -/
structure InsC (K : PySem.W.Frag) (C CN : Addr) : Prop where
  ha : PySem.W.findIn K (.ref C) "__class__" = some (some (.builtin "object.__class__"))
  hn : PySem.W.specialIn K (.builtin "object.__class__") "__get__" = some (some (.builtin "getset_descriptor.__get__"))
  tk : PySem.W.takesIn K (.builtin "object.__class__") = some true
  mr : PySem.W.mroIn K C (.type "object") = some true
  kit : PySem.W.kitOne K (.ref C) (.ref CN) = some true
def insB (K : PySem.W.Frag) (C CN : Addr) : Bool :=
  decide (PySem.W.findIn K (.ref C) "__class__" = some (some (.builtin "object.__class__"))) && (decide (PySem.W.specialIn K (.builtin "object.__class__") "__get__" = some (some (.builtin "getset_descriptor.__get__"))) &&
  (decide (PySem.W.takesIn K (.builtin "object.__class__") = some true) && (decide (PySem.W.mroIn K C (.type "object") = some true) && decide (PySem.W.kitOne K (.ref C) (.ref CN) = some true))))
theorem insB_ok {K : PySem.W.Frag} {C CN : Addr} (h : insB K C CN = true) : InsC K C CN := by
  obtain ⟨h1, h⟩ := He.ba h
  obtain ⟨h2, h⟩ := He.ba h
  obtain ⟨h3, h⟩ := He.ba h
  obtain ⟨h4, h5⟩ := He.ba h
  exact ⟨of_decide_eq_true h1, of_decide_eq_true h2, of_decide_eq_true h3, of_decide_eq_true h4, of_decide_eq_true h5⟩
theorem InsC.ty {K : PySem.W.Frag} {C CN a dx : Addr} {H : Hp} {fs : List (Str × V)} (i : InsC K C CN) (c : Cls K C) (h : H a = some (.ins C dx fs)) : TyX K H (.ref a) (.ref C) := .base (.ins h c i.ha i.hn i.tk i.mr)
end L2
namespace L2
open PySem PySem.Spec PyProof.Rows
/-! ## Own words, 7: rules whose written part is given (within comprehensions) -/
section
variable {X : Cx} {K : PySem.W.Frag} {tg l e : Expr} {tl ta : TE} {f : Str} {pos : Pos}
theorem pe_fldK (h : X.K = K) (he : PE X e ta) (hb : attributeBase e f X.env (eval e X.env) = eval e X.env) : PE X (.Attribute e f pos) (tFld K ta f) := by
  subst h
  exact pe_fld he hb
theorem call_len_seqK (h : X.K = K) : CallR X (.builtin "len") (fun xs H Q => ∃ p ys, xs = [.ref p] ∧ (SqL K H p ys ∨ SqT K H p ys) ∧ Q (.int ys.length) H) := by
  subst h
  exact call_len_seq
theorem ix_listK (h : X.K = K) : IxR X (rIxL K) := by
  subst h
  exact ix_list
theorem ix_tupK (h : X.K = K) : IxR X (rIxT K) := by
  subst h
  exact ix_tup
theorem call_list_ofK (h : X.K = K) : CallR X (.type "list") (fun xs H Q => ∃ p ys, xs = [.ref p] ∧ (SqL K H p ys ∨ SqT K H p ys) ∧ ∀ l, H l = none → Q (.ref l) (upd H l (.lst ys))) := by
  subst h
  exact call_list_of
theorem call_tuple_ofK (h : X.K = K) : CallR X (.type "tuple") (fun xs H Q => ∃ p ys, xs = [.ref p] ∧ ((SqL K H p ys ∧ ∀ l, H l = none → Q (.ref l) (upd H l (.tup ys))) ∨ (SqT K H p ys ∧ Q (.ref p) H))) := by
  subst h
  exact call_tuple_of
theorem sl_listK (h : X.K = K) : SlR X (rSlL K) := by
  subst h
  exact sl_list
theorem pi_listK (h : X.K = K) (hl : PE X l tl) : PI X tg l (iList K tl) := by
  subst h
  exact pi_list hl
theorem pi_tupK (h : X.K = K) (hl : PE X l tl) : PI X tg l (iTup K tl) := by
  subst h
  exact pi_tup hl
theorem call_isiG (h : X.K = K) : CallR X (.builtin "isinstance") (rIsi K) := by
  subst h
  exact call_isi
end
theorem yes_ite {σ : L2.St} {H : Hp} {a b : Hp → Prop} (h : a H) : tYes σ H (fun t H' => if t = true then a H' else b H') := by
  unfold tYes
  exact iteT h
end L2
/-! ## Own words, 6: zip of a list and a tuple (or any two of them) -/
namespace L2
open PySem PySem.Spec PyProof.Rows
/-- an iterator that stands at the k-th of a list's or a tuple's items -/
inductive Src (h : Heap) (it l : Addr) (k : Nat) (its : Array Value) : Bool → Prop
  | ofList (a : h.IsListIter it l k) (b : h.IsList l its) : Src h it l k its false
  | ofTup (a : h.IsTupleIter it l k) (b : h.IsTuple l its) : Src h it l k its true
theorem Src.but {h h' : Heap} {it l c : Addr} {k : Nat} {its : Array Value} {t : Bool} (S : Src h it l k its t) (x : Heap.ExtBut c h h') (n1 : it ≠ c) (n2 : l ≠ c) : Src h' it l k its t := by
  cases S with
  | ofList a b => exact .ofList (a.extBut x n1) (b.extBut x n2)
  | ofTup a b => exact .ofTup (a.extBut x n1) (b.extBut x n2)
section
variable {prog : Program} {w : World} {A : Around} {E : Value → Shared → Prop} {s : Shared} {it l : Addr} {k : Nat} {its : Array Value} {t : Bool}
theorem Src.next {x : Value} {Q : Value → Shared → Prop} (S : Src s.heap it l k its t) (ne : l ≠ it) (hx : its[k]? = some x) (q : ∀ h', Src h' it l (k + 1) its t → Heap.SameBut it s.heap h' → Q x { s with heap := h' }) :
    wpAny (model prog w) A (Builtin.SmallTypes.nextOf (.ref it)) Q E s := by
  cases S with
  | ofList a b => exact wpAny_nextOf_list_item a b hx fun h' a' sb => q h' (.ofList a' (b.extBut sb.extBut ne)) sb
  | ofTup a b => exact RZ.nextOf_tuple_item a b hx fun h' a' sb => q h' (.ofTup a' (b.extBut sb.extBut ne)) sb
theorem Src.last {Q : Value → Shared → Prop} (S : Src s.heap it l k its t) (hh : A.handled = none) (hx : its[k]? = none) (q : ∀ h' e, Heap.ExtBut it s.heap h' → (∃ o, h'.get? e = some o ∧ o.cls = .type "StopIteration") → E (.ref e) { s with heap := h' }) :
    wpAny (model prog w) A (Builtin.SmallTypes.nextOf (.ref it)) Q E s := by
  cases S with
  | ofList a b => exact wpAny_nextOf_list_end hh a b hx q
  | ofTup a b => exact RZ.nextOf_tuple_end hh a b hx q
end
section
variable {prog : Program} {w : World} {A : Around} {E : Value → Shared → Prop} {s : Shared} {z TI TO i1 i2 l1 l2 : Addr} {k1 k2 : Nat} {xs ys : Array Value} {a b : Value} {t1 t2 : Bool}
/-- what a turn of zip leaves as it was -/
def ZKeep (z TO i1 i2 : Addr) (h h' : Heap) : Prop := ∀ c o, c ≠ z → c ≠ TO → c ≠ i1 → c ≠ i2 → h.get? c = some o → h'.get? c = some o
theorem zipS_item {x y : Value} {Q : Value → Shared → Prop} (D : ZipApart z TI TO i1 i2 l1 l2) (hz : IsZip s.heap z TI TO .none) (hI : IsPair s.heap TI (.ref i1) (.ref i2)) (hO : IsPair s.heap TO a b)
    (S1 : Src s.heap i1 l1 k1 xs t1) (S2 : Src s.heap i2 l2 k2 ys t2) (hx : xs[k1]? = some x) (hy : ys[k2]? = some y)
    (q : ∀ h', IsZip h' z TI TO (rawInt s.heap.objs.size) → IsPair h' TO x y → Src h' i1 l1 (k1 + 1) xs t1 → Src h' i2 l2 (k2 + 1) ys t2 → IsPair h' s.heap.objs.size x y → ZKeep z TO i1 i2 s.heap h' → Q (.ref s.heap.objs.size) { s with heap := h' }) :
    wpAny (model prog w) A (Builtin.«zip.__next__» ⟨[.ref z], []⟩) (fun fin s' => ∃ v, fin = .done (.ret v) ∧ Q v s') E s := by
  show wpAny _ _ (field (.ref z) 2 >>= _) _ _ _
  refine wpAny_bind (wpAny_field hz rfl (x := .bool false) rfl ?_)
  show wpAny _ _ (field (.ref z) 3 >>= _) _ _ _
  refine wpAny_bind (wpAny_field hz rfl (x := .ref TI) rfl (wpAny_bind (wpAny_seqItems hI rfl ?_)))
  show wpAny _ _ (Builtin.SmallTypes.ownedTupleIsFree (.ref z) >>= _) _ _ _
  refine wpAny_bind ?_
  unfold Builtin.SmallTypes.ownedTupleIsFree
  refine wpAny_bind (wpAny_field hz rfl (x := .none) rfl (wpAny_pure ?_))
  simp only [if_true]
  refine wpAny_bind (wpAny_rule (wpAny_bind (wpAny_field hz rfl (x := .ref TO) rfl (wpAny_bind (wpAny_setField_rec hz (by simp) fun g1 z1 e1 => ?_)))))
  replace z1 : IsZip g1 z TI TO .ellipsis := z1
  refine wpAny_bind ?_
  simp only [List.zipIdx_cons, List.zipIdx_nil, List.forIn_cons, List.forIn_nil]
  refine wpAny_bind (wpAny_bind (wpAny_onRaise ?_))
  show wpAny _ _ (Builtin.SmallTypes.nextOf (.ref i1) >>= _) _ _ _
  refine wpAny_bind ((S1.but e1.extBut D.i1z D.l1z).next D.l1i1 hx fun g2 T2 e2 => wpAny_pure ?_)
  have O2 : IsPair g2 TO a b := e2.extBut _ _ D.TOi1 (e1.extBut _ _ D.TOz hO)
  refine wpAny_bind (wpAny_seqItems O2 rfl (wpAny_bind (wpAny_updateSeq_pair O2 fun g3 O3 e3 => ?_)))
  replace O3 : IsPair g3 TO x b := O3
  refine wpAny_bind (wpAny_letGo (wpAny_pure ?_))
  refine wpAny_bind (wpAny_bind (wpAny_onRaise ?_))
  show wpAny _ _ (Builtin.SmallTypes.nextOf (.ref i2) >>= _) _ _ _
  refine wpAny_bind ((((S2.but e1.extBut D.i2z D.l2z).but e2.extBut D.i12.symm D.l2i1).but e3.extBut D.TOi2.symm D.l2TO).next D.l2i2 hy fun g4 T4 e4 => wpAny_pure ?_)
  have O4 : IsPair g4 TO x b := e4.extBut _ _ D.TOi2 O3
  refine wpAny_bind (wpAny_seqItems O4 rfl (wpAny_bind (wpAny_updateSeq_pair O4 fun g5 O5 e5 => ?_)))
  replace O5 : IsPair g5 TO x y := O5
  refine wpAny_bind (wpAny_letGo (wpAny_pure (wpAny_pure ?_)))
  refine wpAny_bind (wpAny_seqItems O5 rfl (wpAny_bind (wpAny_newTuple ?_)))
  have size : g5.objs.size = s.heap.objs.size := by rw [e5.1, e4.1, e3.1, e2.1, e1.1]
  have Z5 : IsZip g5 z TI TO .ellipsis := e5.extBut _ _ D.TOz.symm (e4.extBut _ _ D.i2z.symm (e3.extBut _ _ D.TOz.symm (e2.extBut _ _ D.i1z.symm z1)))
  have A5 : Src g5 i1 l1 (k1 + 1) xs t1 := ((T2.but e3.extBut D.TOi1.symm D.l1TO).but e4.extBut D.i12 D.l1i2).but e5.extBut D.TOi1.symm D.l1TO
  have B5 : Src g5 i2 l2 (k2 + 1) ys t2 := T4.but e5.extBut D.TOi2.symm D.l2TO
  have zlt : z < g5.objs.size := Heap.lt_size Z5
  show wpAny _ _ (Builtin.SmallTypes.ownedTupleHandOut (.ref z) (.ref g5.objs.size) >>= _) _ _ _
  refine wpAny_bind ?_
  unfold Builtin.SmallTypes.ownedTupleHandOut
  refine wpAny_bind (wpAny_setField_rec (Heap.get?_push_of_some _ Z5) (by simp) fun g7 z7 e7 => wpAny_setField_rec z7 (by simp) fun g8 z8 e8 => ?_)
  have last : Heap.ExtBut z g5 g8 := fun c o n e => e8.extBut _ _ n (e7.extBut _ _ n (Heap.get?_push_of_some _ e))
  have new : IsPair g8 g5.objs.size x y := e8.extBut _ _ (Nat.ne_of_gt zlt) (e7.extBut _ _ (Nat.ne_of_gt zlt) (Heap.get?_push_size _ rfl))
  replace z8 : IsZip g8 z TI TO (rawInt g5.objs.size) := z8
  rw [size] at new z8
  refine wpAny_pure ⟨_, rfl, ?_⟩
  show Q (.ref g5.objs.size) _
  rw [size]
  exact q g8 z8 (last _ _ D.TOz O5) (A5.but last D.i1z D.l1z) (B5.but last D.i2z D.l2z) new fun c o c1 c2 c3 c4 e => last c o c1 (e5.extBut _ _ c2 (e4.extBut _ _ c4 (e3.extBut _ _ c2 (e2.extBut _ _ c3 (e1.extBut _ _ c1 e)))))
/-- the first of the two is at its end -/
theorem zipS_end {Q : Fin → Shared → Prop} (hh : A.handled = none) (D : ZipApart z TI TO i1 i2 l1 l2) (hz : IsZip s.heap z TI TO .none) (hI : IsPair s.heap TI (.ref i1) (.ref i2)) (S1 : Src s.heap i1 l1 k1 xs t1) (hx : xs[k1]? = none)
    (q : ∀ h' e, ZKeep z TO i1 i2 s.heap h' → (∃ o, h'.get? e = some o ∧ o.cls = .type "StopIteration") → E (.ref e) { s with heap := h' }) :
    wpAny (model prog w) A (Builtin.«zip.__next__» ⟨[.ref z], []⟩) Q E s := by
  show wpAny _ _ (field (.ref z) 2 >>= _) _ _ _
  refine wpAny_bind (wpAny_field hz rfl (x := .bool false) rfl ?_)
  show wpAny _ _ (field (.ref z) 3 >>= _) _ _ _
  refine wpAny_bind (wpAny_field hz rfl (x := .ref TI) rfl (wpAny_bind (wpAny_seqItems hI rfl ?_)))
  show wpAny _ _ (Builtin.SmallTypes.ownedTupleIsFree (.ref z) >>= _) _ _ _
  refine wpAny_bind ?_
  unfold Builtin.SmallTypes.ownedTupleIsFree
  refine wpAny_bind (wpAny_field hz rfl (x := .none) rfl (wpAny_pure ?_))
  simp only [if_true]
  refine wpAny_bind (wpAny_rule (wpAny_bind (wpAny_field hz rfl (x := .ref TO) rfl (wpAny_bind (wpAny_setField_rec hz (by simp) fun g1 z1 e1 => ?_)))))
  replace z1 : IsZip g1 z TI TO .ellipsis := z1
  refine wpAny_bind ?_
  simp only [List.zipIdx_cons, List.zipIdx_nil, List.forIn_cons, List.forIn_nil]
  refine wpAny_bind (wpAny_bind (wpAny_onRaise ?_))
  show wpAny _ _ (Builtin.SmallTypes.nextOf (.ref i1) >>= _) _ _ _
  refine wpAny_bind ((S1.but e1.extBut D.i1z D.l1z).last hh hx fun g2 e e2 he => ?_)
  obtain ⟨oe, hoe, hce⟩ := he
  have z2 : IsZip g2 z TI TO .ellipsis := e2 _ _ D.i1z.symm z1
  have ne : e ≠ z := fun x => by
    rw [x, z2] at hoe
    cases hoe
    simp at hce
  exact wpAny_setField_rec z2 (by simp) fun g3 _ e3 => q g3 e (fun c o c1 _ c3 _ x => e3.extBut _ _ c1 (e2 _ _ c3 (e1.extBut _ _ c1 x))) ⟨oe, e3.extBut _ _ ne hoe, hce⟩
end
/-- a list and a tuple as they stand at each turn, the items in new pairs; the list is at its end first -/
def ItzLT (K : PySem.W.Frag) (a b : Addr) : It :=
  ⟨fun i H => ∃ (xs ys : List V) (x y : V), SqL K H a xs ∧ SqT K H b ys ∧ xs[i]? = some x ∧ ys[i]? = some y,
    fun i H v H' => ∃ T x y, v = .ref T ∧ H T = none ∧ H' = upd H T (.tup [x, y]) ∧ (∀ xs, SqL K H a xs → xs[i]? = some x) ∧ ∀ ys, SqT K H b ys → ys[i]? = some y,
    fun i H => ∃ xs : List V, SqL K H a xs ∧ xs.length ≤ i⟩
theorem Src.list {h : Heap} {it l : Addr} {k : Nat} {its : Array Value} (S : Src h it l k its false) : h.IsListIter it l k := by
  cases S with
  | ofList a b => exact a
theorem Src.tup {h : Heap} {it l : Addr} {k : Nat} {its : Array Value} (S : Src h it l k its true) : h.IsTupleIter it l k := by
  cases S with
  | ofTup a b => exact a
theorem turn_zipLT {P : Program} {w : World} {K : PySem.W.Frag} {elts : List Expr} {kk : Nat} {tpos : Pos} {a b z TI TO i1 i2 : Addr} (D : ZipApart z TI TO i1 i2 a b) :
    Turn P w K (.Tuple elts kk tpos) (ItzLT K a b) [z, TI, TO, i1, i2] z (fun i h => IsZip h z TI TO .none ∧ IsPair h TI (.ref i1) (.ref i2) ∧ (∃ x y, IsPair h TO x y) ∧ h.IsListIter i1 a i ∧ h.IsTupleIter i2 b i) where
  mem := List.mem_cons_self
  obj := fun i h st c hc => by
    obtain ⟨hz, hI, ⟨x, y, hO⟩, ⟨o1, e1, _, d1⟩, ⟨o2, e2, _, d2⟩⟩ := st
    simp only [List.mem_cons, List.not_mem_nil, or_false] at hc
    rcases hc with rfl | rfl | rfl | rfl | rfl
    · exact ⟨_, hz, fun v q => nomatch q⟩
    · exact ⟨_, hI, fun v q => nomatch q⟩
    · exact ⟨_, hO, fun v q => nomatch q⟩
    · exact ⟨o1, e1, fun v q => by rw [d1] at q; cases q⟩
    · exact ⟨o2, e2, fun v q => by rw [d2] at q; cases q⟩
  keep := fun i h h' st k => by
    obtain ⟨hz, hI, ⟨x, y, hO⟩, h1, h2⟩ := st
    exact ⟨k z (by simp) _ hz, k TI (by simp) _ hI, ⟨x, y, k TO (by simp) _ hO⟩, h1.at fun o q => k i1 (by simp) o q, h2.at fun o q => k i2 (by simp) o q⟩
  item := by
    intro X hP hw hK hc i pins s σ H E I hf st hg
    subst hP hw hK
    obtain ⟨hz, hI, ⟨x0, y0, hO⟩, h1, h2⟩ := st
    obtain ⟨xs, ys, x, y, sx, sy, hx, hy⟩ := hg
    obtain ⟨its, rv, p, _⟩ := I.list sx
    obtain ⟨its2, rv2, p2, _⟩ := I.tuple sy
    obtain ⟨u, hu, ru⟩ := rv.get hx
    obtain ⟨u2, hu2, ru2⟩ := rv2.get hy
    have zlt : z < s.heap.objs.size := Heap.lt_size hz
    have lower : ∀ c ∈ [z, TI, TO, i1, i2], c < s.heap.objs.size := fun c hcm => by
      simp only [List.mem_cons, List.not_mem_nil, or_false] at hcm
      rcases hcm with rfl | rfl | rfl | rfl | rfl
      · exact zlt
      · exact Heap.lt_size hI
      · exact Heap.lt_size hO
      · obtain ⟨_, e1, _⟩ := h1; exact Heap.lt_size e1
      · obtain ⟨_, e2, _⟩ := h2; exact Heap.lt_size e2
    unfold pyNext
    refine wpAny_bind (wpAny_attempt (wpAny_callSpecial?_slot (name := Str.ofString "__next__") ⟨_, hz, rfl⟩ F.slot_zip_next (wpAny_call_entry F.slot_zip_next ⟨_, hz, rfl⟩ F.entry_zip_next ?_ (F.args_zip_next_1 _))))
    refine zipS_item D hz hI hO (.ofList h1 p.isList) (.ofTup h2 p2) (x := u) (y := u2) (by simpa using hu) (by simpa using hu2) fun h' z' O' S1 S2 new keep => wpAny_pure ?_
    refine ⟨_, rfl, wpAny_letOwnedTupleGo_zip (s := { s with heap := h' }) z' fun h'' z'' sb => ?_⟩
    have pair : h''.get? s.heap.objs.size = some { cls := .type "tuple", data := .seq #[u, u2] } := (sb.2 _ (Nat.ne_of_gt zlt)).trans new
    have ok : ObjOk X.prog X.w (upd H s.heap.objs.size (.tup [x, y])) h'' s.heap.objs.size (.tup [x, y]) := ⟨by show 2 ≤ sizeLine; decide, [u, u2], .cons ru (.cons ru2 .nil), ⟨_, pair, rfl, _, rfl⟩⟩
    have I1 : Inv X pins σ (upd H s.heap.objs.size (.tup [x, y])) { s with heap := h'' } :=
      I.turnedNew (t' := s.toks) (ch := [z, TI, TO, i1, i2]) (fun c o nb e => (sb.2 c (fun e' => nb (by simp [e']))).trans (keep c o (fun e' => nb (by simp [e'])) (fun e' => nb (by simp [e'])) (fun e' => nb (by simp [e'])) (fun e' => nb (by simp [e'])) e)) hf (Nat.le_refl _) ok
    refine ⟨.ref s.heap.objs.size, _, I1, rfl, ⟨_, x, y, rfl, I.hok.fresh (Nat.le_refl _), rfl, fun l hl => by rw [I.list_inj hl sx]; exact hx, fun l hl => by rw [I.tuple_inj hl sy]; exact hy⟩, ⟨z'', ?_, ⟨u, u2, (sb.2 _ D.TOz).trans O'⟩, ?_, ?_⟩, fun c hcm => ?_⟩
    · exact (sb.2 _ D.TIz).trans (keep _ _ D.TIz D.TITO D.TIi1 D.TIi2 hI)
    · exact S1.list.at fun o q => (sb.2 _ D.i1z).trans q
    · exact S2.tup.at fun o q => (sb.2 _ D.i2z).trans q
    · rw [upd_ne (Nat.ne_of_lt (lower c hcm))]
      exact (hf c hcm).1
  done := by
    intro X hP hw hK hc i pins s σ H E I hf st hg
    subst hP hw hK
    obtain ⟨hz, hI, ⟨x0, y0, hO⟩, h1, h2⟩ := st
    obtain ⟨xs, sx, hend⟩ := hg
    obtain ⟨its, rv, p, _⟩ := I.list sx
    have l1 := rv.length
    unfold pyNext
    refine wpAny_bind (wpAny_attempt (wpAny_callSpecial?_slot (name := Str.ofString "__next__") ⟨_, hz, rfl⟩ F.slot_zip_next (wpAny_call_entry F.slot_zip_next ⟨_, hz, rfl⟩ F.entry_zip_next ?_ (F.args_zip_next_1 _))))
    refine zipS_end (I.ok.hd hc) D hz hI (.ofList h1 p.isList) (by simp; omega) fun h' e keep he => ?_
    obtain ⟨o, ho, hce⟩ := he
    refine wpAny_bind (wpAny_isInstance (T := "StopIteration") (b := true) ⟨o, ho, hce⟩ isSubtype_stop (wpAny_pure ⟨rfl, ?_⟩))
    exact I.turnedL (t' := s.toks) (ch := [z, TI, TO, i1, i2]) (fun c o nb e => keep c o (fun e' => nb (by simp [e'])) (fun e' => nb (by simp [e'])) (fun e' => nb (by simp [e'])) (fun e' => nb (by simp [e'])) e) hf
  self := fun A i s Q E st h => wpAny_pyIter_zip st.1 h
/-- the heap behind zip(l1, l2): two iterators, their pair, the pair to hand out, the zip -/
def zipHp (h : Heap) (l1 l2 : Addr) : Heap :=
  ((((h.push { cls := .type "list_iterator", data := .fields #[.ref l1, .int 0 0] }).push { cls := .type "tuple_iterator", data := .fields #[.ref l2, .int 0 0] }).push { cls := .type "tuple", data := .seq #[.ref h.objs.size, .ref (h.objs.size + 1)] }).push
    { cls := .type "tuple", data := .seq #[.none, .none] }).push { cls := .type "zip", data := .fields #[.none, .bool false, .bool false, .ref (h.objs.size + 2), .ref (h.objs.size + 3)] }
theorem zipLT_new (l1 l2 : Addr) (xs ys : Array Value) : Meets (Builtin.«zip.__new__» ⟨[.type "zip", .ref l1, .ref l2], []⟩) (fun _ R s => s.heap.IsList l1 xs ∧ s.heap.IsTuple l2 ys ∧ R (.ok (.ret (.ref (s.heap.objs.size + 4)))) { s with heap := zipHp s.heap l1 l2 }) :=
  .of_wp fun prog w A R s h => by
    obtain ⟨hp, g, d, tk, os⟩ := s
    obtain ⟨hl1, hl2, h⟩ := h
    have sub := sub_zip
    have L1 : Heap.IsList (Shared.heap ⟨hp, g, d, tk, os⟩) l1 xs := hl1
    have L2 : Heap.IsTuple (Shared.heap ⟨hp.push { cls := .type "list_iterator", data := .fields #[.ref l1, .int 0 0] }, g, d, tk, os⟩) l2 ys := Heap.IsTuple.push hl2 _
    wp_walk using wpAny_pyIter_list L1, wpAny_pyIter_tuple L2
    refine ⟨_, rfl, ?_⟩
    simp only [Heap.size_push] at h ⊢
    exact h
theorem call_zipLT {prog : Program} {w : World} {A : Around} {E : Value → Shared → Prop} {s : Shared} {l1 l2 : Addr} {xs ys : Array Value} {Q : Value → Shared → Prop} (h1 : s.heap.IsList l1 xs) (h2 : s.heap.IsTuple l2 ys)
    (q : ∀ h', IsZip h' (s.heap.objs.size + 4) (s.heap.objs.size + 2) (s.heap.objs.size + 3) .none → IsPair h' (s.heap.objs.size + 2) (.ref s.heap.objs.size) (.ref (s.heap.objs.size + 1)) → IsPair h' (s.heap.objs.size + 3) .none .none →
      h'.IsListIter s.heap.objs.size l1 0 → h'.IsTupleIter (s.heap.objs.size + 1) l2 0 → (∀ c o, s.heap.get? c = some o → h'.get? c = some o) → Q (.ref (s.heap.objs.size + 4)) { s with heap := h' }) :
    wpAny (model prog w) A (call (.type "zip") [.ref l1, .ref l2]) Q E s := by
  refine callType_new F.called_zip (by decide) (F.typeCall_zip_2 _ _) (F.newCall_zip_2 _ _) (fun obj => F.args_object_init_3 obj _ _) F.entry_zip_new (zipLT_new l1 l2 xs ys) ⟨h1, h2, ?_⟩
  have at0 : (zipHp s.heap l1 l2).get? s.heap.objs.size = some { cls := .type "list_iterator", data := .fields #[.ref l1, .int 0 0] } := Heap.get?_push_of_some _ (Heap.get?_push_of_some _ (Heap.get?_push_of_some _ (Heap.get?_push_of_some _ (Heap.get?_push_size _ rfl))))
  have at1 : (zipHp s.heap l1 l2).get? (s.heap.objs.size + 1) = some { cls := .type "tuple_iterator", data := .fields #[.ref l2, .int 0 0] } := by
    refine Heap.get?_push_of_some _ (Heap.get?_push_of_some _ (Heap.get?_push_of_some _ ?_))
    rw [← Heap.size_push s.heap { cls := .type "list_iterator", data := .fields #[.ref l1, .int 0 0] }]
    exact Heap.get?_push_size _ rfl
  have at2 : (zipHp s.heap l1 l2).get? (s.heap.objs.size + 2) = some { cls := .type "tuple", data := .seq #[.ref s.heap.objs.size, .ref (s.heap.objs.size + 1)] } := by
    refine Heap.get?_push_of_some _ (Heap.get?_push_of_some _ ?_)
    have e : s.heap.objs.size + 2 = ((s.heap.push { cls := .type "list_iterator", data := .fields #[.ref l1, .int 0 0] }).push { cls := .type "tuple_iterator", data := .fields #[.ref l2, .int 0 0] }).objs.size := by rw [Heap.size_push, Heap.size_push]
    rw [e]
    exact Heap.get?_push_size _ rfl
  have at3 : (zipHp s.heap l1 l2).get? (s.heap.objs.size + 3) = some { cls := .type "tuple", data := .seq #[.none, .none] } := by
    refine Heap.get?_push_of_some _ ?_
    have e : s.heap.objs.size + 3 = (((s.heap.push { cls := .type "list_iterator", data := .fields #[.ref l1, .int 0 0] }).push { cls := .type "tuple_iterator", data := .fields #[.ref l2, .int 0 0] }).push { cls := .type "tuple", data := .seq #[.ref s.heap.objs.size, .ref (s.heap.objs.size + 1)] }).objs.size := by rw [Heap.size_push, Heap.size_push, Heap.size_push]
    rw [e]
    exact Heap.get?_push_size _ rfl
  have at4 : (zipHp s.heap l1 l2).get? (s.heap.objs.size + 4) = some { cls := .type "zip", data := .fields #[.none, .bool false, .bool false, .ref (s.heap.objs.size + 2), .ref (s.heap.objs.size + 3)] } := by
    have e : s.heap.objs.size + 4 = ((((s.heap.push { cls := .type "list_iterator", data := .fields #[.ref l1, .int 0 0] }).push { cls := .type "tuple_iterator", data := .fields #[.ref l2, .int 0 0] }).push { cls := .type "tuple", data := .seq #[.ref s.heap.objs.size, .ref (s.heap.objs.size + 1)] }).push { cls := .type "tuple", data := .seq #[.none, .none] }).objs.size := by rw [Heap.size_push, Heap.size_push, Heap.size_push, Heap.size_push]
    unfold zipHp
    rw [e]
    exact Heap.get?_push_size _ rfl
  refine ⟨⟨_, at4, rfl⟩, q _ at4 at2 at3 ⟨_, at0, rfl, rfl⟩ ⟨_, at1, rfl, rfl⟩ fun c o x => ?_⟩
  exact Heap.get?_push_of_some _ (Heap.get?_push_of_some _ (Heap.get?_push_of_some _ (Heap.get?_push_of_some _ (Heap.get?_push_of_some _ x))))
def iZipLT (K : PySem.W.Frag) (ta : TA) : TI := fun σ H R => ta σ H fun vs H1 => ∃ a b xs ys, vs = [.ref a, .ref b] ∧ SqL K H1 a xs ∧ SqT K H1 b ys ∧ R (ItzLT K a b) H1
theorem pi_zipLT {X : Cx} {e e2 : Expr} {ta : TA} {p pos tpos : Pos} {elts : List Expr} {kk : Nat} (hg : Gl X "zip") (hm : X.mg "zip" = none) (ha : PA X [e, e2] ta)
    (hs : starEach [e, e2] X.env = (false, eval e X.env) :: starEach [e2] X.env := by rfl) (hpl : (backTo pos (starEach [e2] X.env)).any (·.1) = false := by rfl) :
    PI X (.Tuple elts kk tpos) (.Call (.Name "zip" p) [e, e2] [] pos) (iZipLT X.K ta) := by
  refine ⟨fun pins s σ H R I h => ?_⟩
  refine Call_ (ld_blt I hg hm PyProof.Rows.boot_zip (PyProof.Rows.callWith_type1 (thn (ha.run pos pins s σ H _ I h) fun us s1 ⟨vs, H1, I1, r1, q1⟩ => ?_) hs hpl))
  obtain ⟨a, b, xs, ys, rfl, sx, sy, q⟩ := q1
  obtain ⟨u, v, rfl, ru, rv⟩ := vals2 r1
  cases ru
  cases rv
  obtain ⟨its, _, p1, _⟩ := I1.list sx
  obtain ⟨its2, _, p2, _⟩ := I1.tuple sy
  obtain ⟨o2, ho2, _⟩ := id p2
  refine call_zipLT p1.isList p2 fun h' hz hI hO t1 t2 keep => wpAny_pyIter_zip hz ?_
  refine ⟨s1.heap.objs.size + 4, [s1.heap.objs.size + 4, s1.heap.objs.size + 2, s1.heap.objs.size + 3, s1.heap.objs.size, s1.heap.objs.size + 1], _, _, H1, rfl, I1.kept (t' := s1.toks) keep, turn_zipLT (PySem.W.ktu_apart s1.heap.objs.size a b p1.lt (Heap.lt_size ho2)), ⟨hz, hI, ⟨_, _, hO⟩, t1, t2⟩, fun c hc => ?_, q⟩
  have up : s1.heap.objs.size ≤ c := by
    simp only [List.mem_cons, List.not_mem_nil, or_false] at hc
    rcases hc with rfl | rfl | rfl | rfl | rfl <;> omega
  exact I1.fpOk up (I1.hok.fresh up)
theorem walk_zipLT {K : PySem.W.Frag} {a b : Addr} {xs ys : List V} (hn : xs.length = ys.length) : Walk (ItzLT K a b) xs.length (fun H => SqL K H a xs ∧ SqT K H b ys) (YPair (fun i => xs[i]?) (fun i => ys[i]?)) where
  goes := fun i H hi ⟨h1, h2⟩ => ⟨xs, ys, xs[i], ys[i], h1, h2, List.getElem?_eq_getElem hi, List.getElem?_eq_getElem (hn ▸ hi)⟩
  stops := fun H ⟨h1, _⟩ => ⟨xs, h1, Nat.le_refl _⟩
  yields := fun i H v H' _ ⟨h1, h2⟩ ⟨T, x, y, e1, e2, e3, e4, e5⟩ => ⟨T, x, y, e1, e2, e3, e4 _ h1, e5 _ h2⟩
end L2
namespace L2
open PySem PySem.Spec PyProof.Rows
/-! ## Own words, 8: name = {k: v for ..}, the name a local -/
theorem swd_true {kx vx : Expr} {gs : List Comprehension} {scope : Scope} {pos py : Pos} {y : Str} {l : Nat} {env : Env} (kind : env.scope.kind = .function) (loc : env.scope.names.lookup y = some .local) (row : (py.line == pos.line) = true)
    (none_in : (scope.names.any fun (n, k) => n == y && (k == .local || k == .cell)) = false) : swapsWith (.DictComp kx vx gs scope pos) (some (.Name y py)) l env = pure true := by
  have k1 : env.kindOf y = some .local := loc
  have k2 : env.blockKind = .function := by
    unfold Env.blockKind
    rw [kind]
    rfl
  unfold swapsWith
  simp only [k2, k1, none_in, Expr.pos, row]
  rfl
section
variable {X : Cx}
theorem ps_setDc {i : Nat} {y : Str} {py : Pos} {kx vx tg iter : Expr} {ifs : List Expr} {scope : Scope} {own : List (Str × Nat)} {pos spos : Pos} {wi : TI} {g : TG} {tt : TT} {tk tv : TE} (calm : X.calm = true) (nodup : X.N.Nodup) (slot : X.N[i]? = some y) (loc : X.env.scope.names.lookup y = some .local)
    (swaps : swapsWith (.DictComp kx vx [⟨tg, iter, ifs, 0⟩] scope pos) (some (.Name y py)) spos.line X.env = pure true) (walked : PI X tg iter wi) (blk : BlkOk X.N X.env.scope scope own)
    (pg : ∀ (s : Shared) (H : Hp) (C : Addr) (cl : List (Str × Addr)) (fp : List Addr), PG (X.blk s H scope (compEnvC scope cl C X.env) fp) tg g)
    (pt : ∀ (s : Shared) (H : Hp) (C : Addr) (cl : List (Str × Addr)) (fp : List Addr), PTs (X.blk s H scope (compEnvC scope cl C X.env) fp) ifs tt)
    (pk : ∀ (s : Shared) (H : Hp) (C : Addr) (cl : List (Str × Addr)) (fp : List Addr), PE (X.blk s H scope (compEnvC scope cl C X.env) fp) kx tk)
    (pv' : ∀ (s : Shared) (H : Hp) (C : Addr) (cl : List (Str × Addr)) (fp : List Addr), PE (X.blk s H scope (compEnvC scope cl C X.env) fp) vx tv)
    (folded : ∀ x, foldedSetIterable iter X.env x = pure x := by intro _; rfl) :
    PS X (.Assign [.Name y py] (.DictComp kx vx [⟨tg, iter, ifs, 0⟩] scope pos) spos) (tAsg (tDc wi g tt tk tv (own.map (·.2))) (gName i)) := by
  refine ⟨fun pins s σ H D I h => ?_⟩
  rw [exec_Assign_Name_used _ _ _ _ swaps]
  refine wpAny_bind (wpAny_standAt (wpAny_bind ?_))
  show wpAny _ X.A (do let _ ← comprehension (.DictComp kx vx [⟨tg, iter, ifs, 0⟩] scope pos) scope X.env (firstIterPos [⟨tg, iter, ifs, 0⟩] pos) newDict false (eval iter X.env) (some (assign (.Name y py) X.env))) _ _ s
  have h' : tDc wi g tt tk tv (own.map (·.2)) σ H (fun x H1 => gName i x σ H1 D.nx) := h
  refine wpAny_bind (thn (dc_core (Qf := fun _ s' => SP X pins D .next s') calm nodup I walked blk pg pt pk pv' folded h' fun L C s' m H' I' q hn f => ?_) fun _ s' hq => wpAny_pure (wpAny_pure hq))
  show wpAny _ _ (assign (.Name y py) X.env (.ref L)) _ _ _
  refine wpAny_assign_Name (store_ok2 (v := V.ref L) I' nodup slot (.inl loc) rfl (fun s2 I2 ⟨a, sb, ha⟩ => ?_) (.inr loc))
  obtain ⟨f0, f1, f2, f3, f4, f5⟩ := f
  have apart : C ≠ a := by
    rcases ha with z | z
    · exact z ▸ f1
    · exact fun e => f4 y a z e.symm
  exact ⟨m, hn.sameBut sb apart, fun h3 sb3 => ⟨_, H', I2.turned (t' := s2.toks) (fun b o hb e => (sb3.2 b hb).trans e) f0 f1 f3 f4 f5, q⟩⟩
end
end L2
namespace L2
open PySem PySem.Spec PyProof.Rows
/-! ## Own words, 9: len of an own class's instance; a method with keywords alone; == of one of some sorts -/
section
variable {X : Cx} {CX : CXT} {k n : Nat} {f C : Addr} {fd : FuncData} {ps ks : List Str} {sp : Sp} {E : XK} {x m : Str} {p pos apos : Pos} {o : Expr} {kws : List Keyword} {ta : TE} {tk : TA} {g : List Value → List Value → List Value} {gV : List V → List V → List V}
/-- len(o), o an instance of the class at C, by the text's own __len__ -/
def rLenO (C : Addr) (sp : Sp) (E : XK) : List V → Hp → VK → Prop := fun xs H Q => ∃ (a dx : Addr) (fs : List (Str × V)), xs = [.ref a] ∧ H a = some (.ins C dx fs) ∧ sp [.ref a] H (fun v H' => ∃ n : Nat, v = .int (n : Int) ∧ n < 2 ^ 62 ∧ Q (.int (n : Int)) H') E
theorem call_lenO (F : FnOk X.prog X.w X.K X.mg X.base CX k f fd ps sp) (hs : PySem.W.findIn X.K (.ref C) "__len__" = some (some (.ref f))) (hf : PySem.W.isFn X.K (.ref f) = true) (hb : Binds X.K fd ps []) (hr : Room (k + 1) X.A) (hx : Passes CX X E) : CallR X (.builtin "len") (rLenO C sp E) := by
  intro pins s σ H xs us Q I r h
  obtain ⟨a, dx, fs, rfl, ha, hsp⟩ := h
  obtain ⟨u, rfl, ru⟩ := vals1 r
  obtain rfl : u = Value.ref a := ru
  obtain ⟨mA, J, _⟩ := ins_get I.hok ha
  obtain ⟨od, J, _⟩ := J.look
  obtain ⟨m, hF⟩ := I.fr
  refine PySem.W.len_K hF I.ok.mod.kin J hs hf ?_
  have hl := F.len _ _ _ _ hsp
  have r2 : Vals [V.ref a] [Value.ref a] := .cons rfl .nil
  refine wpAny_call (codeAny_mono (F.run X.A.in1 X.stack s H ⟨[.ref a], []⟩ [.ref a] [.ref a] _ E hr.in1 I.env0.in1 (by
    have := hb s [.ref a] I.kIn (by simpa using hl)
    simpa using this) r2 hsp) fun r s' hq => ?_)
  cases r with
  | error e => exact hx pins σ H s e s' I hq
  | ok fl =>
    cases fl with
    | ret w =>
      obtain ⟨z, H', I', rz, n, ez, n1, q⟩ := I.after hq
      subst ez
      obtain ⟨t, rfl⟩ := rz
      exact ⟨⟨by omega, by omega⟩, .int (n : Int), H', I'.tok _, ⟨_, rfl⟩, q⟩
    | next => exact False.elim hq
    | brk => exact False.elim hq
    | cont => exact False.elim hq
/-- a def without defaults, called with keywords too -/
theorem FunD.kbN {K : PySem.W.Frag} {x qual : Str} {params : Arguments} {body : List Stmt} {scope : Scope} {kws : List (Str × V)} (F : FunD K x qual params body scope [] kws f fd) (n : Nat) (ks : List Str) (g : {α : Type} → List α → List α → List α)
    (hrel : ∀ {vs zs : List V} {us ws : List Value}, Vals vs us → Vals zs ws → Vals (g vs zs) (g us ws))
    (h : ∀ (kV doc pm : Value) (an : Option Addr) (cdv ct : Value) (us ws : List Value), us.length = n → ws.length = ks.length → bindArgs (PySem.W.fnOf x qual params body scope .none kV doc pm an cdv ct) ⟨us, ks.zip ws⟩ = pure (ps.zip (g us ws))) :
    KBn K fd ps n ks (fun us ws => g us ws) (fun vs zs => g vs zs) := by
  obtain ⟨oc, od, dV, kV, doc, pm, an, cdv, ct, osl, rfl, lk, hcd, hD, hK⟩ := F.ex
  rcases hD with ⟨_, rfl⟩ | ⟨e, _⟩
  · exact ⟨fun s us ws _ l1 l2 => .of_eq (h kV doc pm an cdv ct us ws l1 l2), fun r1 r2 => hrel r1 r2⟩
  · exact absurd rfl e
theorem run_fnB {pins : List (Addr × Obj)} {σ : St} {H : Hp} {s : Shared} {Q : VK} {us ws : List Value} {vs zs : List V} (F : FnOk X.prog X.w X.K X.mg X.base CX k f fd ps sp) (hr : Room k X.A) (hb : KBn X.K fd ps n ks g gV) (hx : Passes CX X E)
    (I : Inv X pins σ H s) (r : Vals vs us) (rz : Vals zs ws) (l1 : vs.length = n) (l2 : zs.length = ks.length) (h : sp (gV vs zs) H Q E) : wpAny (model X.prog X.w) X.A (call (.ref f) us (ks.zip ws)) (EP X pins σ Q) X.xe s := by
  have r2 := hb.rel r rz
  refine wpAny_call (codeAny_mono (F.run X.A X.stack s H ⟨us, ks.zip ws⟩ (g us ws) (gV vs zs) Q E hr I.env0 (hb.to s us ws I.kIn (r.length.symm.trans l1) (rz.length.symm.trans l2)) r2 h) fun r s' hq => ?_)
  cases r with
  | error e => exact hx pins σ H s e s' I hq
  | ok fl =>
    cases fl with
    | ret u => exact I.after hq
    | next => exact False.elim hq
    | brk => exact False.elim hq
    | cont => exact False.elim hq
/-- o.m(k = v, ..) -/
def tMethK (C : Addr) (m : Str) (j : Nat) (sp : Sp) (gV : List V → List V → List V) (E : XK) (ta : TE) (tk : TA) : TE := fun σ H Q => ta σ H fun x H1 => ∃ a dx fs, x = .ref a ∧ H1 a = some (.ins C dx fs) ∧ fs.lookup m = none ∧ tk σ H1 fun zs H2 => zs.length = j ∧ sp (gV [x] zs) H2 Q E
theorem pe_methK0 {pl : Sem Bool} (he : PE X o ta) (c : Cls X.K C) (hm : Meth X.K C m f) (F : FnOk X.prog X.w X.K X.mg X.base CX k f fd ps sp) (hr : Room k X.A) (hb : KBn X.K fd ps 1 ks g gV) (hx : Passes CX X E) (hkw : PK X kws tk)
    (hall : (backToKw pos (keywordEach kws X.env)).all (·.1.isSome) = true := by rfl) (hks : (backToKw pos (keywordEach kws X.env)).filterMap (·.1) = ks := by rfl)
    (hpl : ((backTo pos (starEach [] X.env)).any (·.1) || (backToKw pos (keywordEach kws X.env)).any (·.1.isNone)) = false := by rfl)
    (ht : eval (.Call (.Attribute o m apos) [] kws pos) X.env = (do
      let ov ← eval o X.env
      standAt apos.atName
      let (f, first) ← holding [ov] (getMethod ov m pl)
      callWith pos f first (backTo pos (starEach [] X.env)) (backToKw pos (keywordEach kws X.env))) := by rfl) :
    PE X (.Call (.Attribute o m apos) [] kws pos) (tMethK C m ks.length sp gV E ta tk) := by
  refine ⟨fun pins s σ H Q I h => ?_⟩
  refine PySem.W.methodCall_KW (pl := pl) (thn (he.run pins s σ H _ I h) fun u s1 ⟨x, H1, I1, rx, a, dx, fs, ex, ea, l, q⟩ => ?_) ht
  subst ex
  obtain rfl : u = Value.ref a := rx
  refine getmeth_ok I1 ea c hm l ?_
  refine PySem.W.callWith_KW0 (first := [.ref a]) (h₀ := X.base) I.ok.mod.kin hm.kp hall ?_ hpl
  refine thn (hkw.run pos pins s1 σ H1 _ I1 q) fun ws s2 ⟨zs, H2, I2, rz, l2, q2⟩ => ⟨I2.kIn, ?_⟩
  rw [hks]
  exact run_fnB (us := [.ref a]) (vs := [.ref a]) F hr hb hx I2 (.cons rfl .nil) rz rfl l2 q2
end
/-! ### == over some sorts -/
section
variable {X : Cx} {n : Nat} {α : Type}
theorem RcG.any {D : α → Eqv} (h : ∀ A, RcG X n (D A)) : RcG X n (fun x y H => ∃ A, D A x y H) := fun A pins s σ H x y u v sb I rx ry d => by
  obtain ⟨B, d⟩ := d
  exact h B A pins s σ H x y u v sb I rx ry d
/-- an own == of a class -/
structure EqC (P : Program) (w : World) (K : PySem.W.Frag) (mg : Str → Option Value) (base : Heap) (n : Nat) (R : Addr → Addr → Hp → Prop) (C : Addr) : Prop where
  ex : ∃ f fd ps, FnOk P w K mg base CX0 n f fd ps (spEq R) ∧ PySem.W.findIn K (.ref C) "__eq__" = some (some (.ref f)) ∧ PySem.W.isFn K (.ref f) = true ∧ Binds K fd ps []
theorem EqC.rc {R : Addr → Addr → Hp → Prop} {C : Addr} (h : EqC X.prog X.w X.K X.mg X.base n R C) : RcG X n (DIns C R) := by
  obtain ⟨f, fd, ps, F, hs, hf, hb⟩ := h.ex
  exact rcG_ins (E := E0) F hs hf hb pass0
theorem rc_sorts {cl : α → Addr} {R : α → Addr → Addr → Hp → Prop} (h : ∀ A, EqC X.prog X.w X.K X.mg X.base n (R A) (cl A)) : RcG X n (fun x y H => ∃ A, DIns (cl A) (R A) x y H) := RcG.any fun A => (h A).rc
end
end L2
namespace L2
open PySem PySem.Spec PyProof.Rows
/-! ## Own words, 10: isinstance of a caught exception that has fields; repr of a list with an empty dict in it -/
section
variable {X : Cx} {a D : Addr} {oe : Obj} {cls : Value} {d : Option Addr} {pn : List (Addr × Obj)}
/-- isinstance(e, c), e what the suite holds, with or without fields -/
def rIsX (K : PySem.W.Frag) (D a : Addr) (cls : Value) (d : Option Addr) : List V → Hp → VK → Prop := fun xs H Q => cls = .ref D ∧ (∀ dd, d = some dd → ∃ fs, H dd = some (.xd fs)) ∧ ∃ (c : V) (cv : Value) (b : Bool), xs = [.ref a, c] ∧ ClsV c cv ∧ PySem.W.kitOne K (.ref D) cv = some b ∧ Q (.bl b) H
/-- isinstance(e, (c, ..)) -/
def rIsXT (K : PySem.W.Frag) (D a : Addr) (cls : Value) (d : Option Addr) : List V → Hp → VK → Prop := fun xs H Q => cls = .ref D ∧ (∀ dd, d = some dd → ∃ fs, H dd = some (.xd fs)) ∧ ∃ (tp : Addr) (cs : List V) (us : List Value) (b : Bool), xs = [.ref a, .ref tp] ∧ H tp = some (.tup cs) ∧ Paired ClsV cs us ∧ PySem.W.kitAny K (.ref D) us = some b ∧ Q (.bl b) H
/-- the caught exception stands on the heap -/
theorem suite_inst {pins : List (Addr × Obj)} {σ : St} {H : Hp} {s : Shared} (hz : Zc (.ref D) d oe) (hf : ∃ vs, oe.data = .fields vs) (I : Inv (X.suite a ((a, oe) :: pn)) pins σ H s) (hd : ∀ dd, d = some dd → ∃ fs, H dd = some (.xd fs)) : ∃ od, PySem.W.InstAt s.heap a oe D od := by
  obtain ⟨got, _⟩ := I.pin (a, oe) (List.mem_append.mpr (.inl List.mem_cons_self))
  obtain ⟨flds, hv⟩ := hf
  obtain ⟨oc, odd, oda, osl⟩ := oe
  obtain ⟨z1, z2⟩ := hz
  dsimp only at z1 z2 hv
  subst z1 z2 hv
  cases odd with
  | none => exact ⟨none, got, rfl, rfl, trivial⟩
  | some dd =>
    obtain ⟨fs, hx⟩ := hd dd rfl
    have ok : ObjOk X.prog X.w H s.heap dd (.xd fs) := I.hok dd _ hx
    obtain ⟨mA, names, _⟩ := ok
    obtain ⟨od, ho, _⟩ := lookIn_ns names
    exact ⟨some od, got, rfl, rfl, ho⟩
theorem exc_isSome {K : PySem.W.Frag} {D : Addr} (h : PySem.W.hasDictIn K D = true) : (PySem.W.clsIn K D).isSome = true := by
  obtain ⟨cd, hc, _⟩ := PySem.W.any_some h
  rw [hc]
  rfl
theorem call_isX (C : ExcC X.K D) (hz : Zc cls d oe) (hf : ∃ vs, oe.data = .fields vs) : CallR (X.suite a ((a, oe) :: pn)) (.builtin "isinstance") (rIsX X.K D a cls d) := by
  intro pins s σ H xs us Q I r h
  obtain ⟨rfl, hd, c, cv, b, rfl, kc, e, q⟩ := h
  obtain ⟨u1, u2, rfl, r1, r2⟩ := vals2 r
  obtain rfl : u1 = Value.ref a := r1
  obtain rfl := kc.eq r2
  obtain ⟨od, J⟩ := suite_inst hz hf I hd
  exact PySem.W.kia_one (PySem.W.kitx_exc (exc_isSome C.hd) C.hg C.hk C.hs C.ha C.hn C.ht C.hm) I.kIn J e (fun z => nomatch z) fun tk => ⟨.bl b, H, I.kept (t' := tk) fun _ _ z => z, rfl, q⟩
theorem call_isXT (C : ExcC X.K D) (hz : Zc cls d oe) (hf : ∃ vs, oe.data = .fields vs) : CallR (X.suite a ((a, oe) :: pn)) (.builtin "isinstance") (rIsXT X.K D a cls d) := by
  intro pins s σ H xs us Q I r h
  obtain ⟨rfl, hd, tp, cs, ws, b, rfl, hT, k, e, q⟩ := h
  obtain ⟨u1, u2, rfl, r1, r2⟩ := vals2 r
  obtain rfl : u1 = Value.ref a := r1
  cases (show u2 = Value.ref tp from r2)
  obtain ⟨od, J⟩ := suite_inst hz hf I hd
  obtain ⟨_, its, rv, o, h1, h2, n, h3⟩ := (show ObjOk X.prog X.w H s.heap tp (.tup cs) from I.hok tp _ hT)
  have same := ClsV.all k rv
  subst same
  obtain ⟨oc, od', dt, sl⟩ := o
  simp only at h2 h3
  subst h2 h3
  exact PySem.W.kia_tup (PySem.W.kitx_exc (exc_isSome C.hd) C.hg C.hk C.hs C.ha C.hn C.ht C.hm) I.kIn J h1 e (fun z => nomatch z) fun tk => ⟨.bl b, H, I.kept (t' := tk) fun _ _ z => z, rfl, q⟩
end
/-! ### repr of a list whose last thing is an empty dict -/
/-- the dict of the modules stands in the written part -/
def SysM (K : PySem.W.Frag) : Prop := ∃ o, K.lookup sysModules = some o ∧ o.cls = .type "dict"
def rReprE (K : PySem.W.Frag) : List V → Hp → VK → Prop := fun xs H Q => ∃ (l e : Addr) (vs : List V) (ds : List PyData) (S : Str), xs = [.ref l] ∧ SysM K ∧ H l = some (.lst (vs ++ [.ref e])) ∧ DpAll K H vs ds ∧ (∀ x ∈ vs, flatV x = true) ∧ H e = some (.dK []) ∧ PyData.showableAll ds = true ∧ (PyData.list (ds ++ [.dict []])).depth ≤ 60 ∧ (PyData.list (ds ++ [.dict []])).shown.length ≤ sizeLine ∧ (PyData.list (ds ++ [.dict []])).shown = S ∧ Q (.str S) H
theorem flat_noref {v : V} {b : Addr} (f : flatV v = true) (r : RelV v (.ref b)) : False := by
  cases v with
  | non => exact nomatch (show Value.ref b = Value.none from r)
  | bl k => exact nomatch (show Value.ref b = Value.bool k from r)
  | int i =>
    obtain ⟨t, z⟩ := (show ∃ t, Value.ref b = Value.int i t from r)
    cases z
  | str i =>
    obtain ⟨t, z⟩ := (show ∃ t, Value.ref b = Value.str i t from r)
    cases z
  | _ => cases f
theorem reads_flat {h : Heap} : ∀ {us : List Value} {ds : List PyData} {as : List Addr} {vs : List V}, ReadsAll h us ds as → Vals vs us → (∀ x ∈ vs, flatV x = true) → as = []
  | _, _, _, _, .nil, .nil, _ => rfl
  | _, _, _, _, .cons r a, .cons (a := v) rv rr, f => by
    have e := reads_flat a rr fun x hx => f x (List.mem_cons_of_mem _ hx)
    have fv := f v List.mem_cons_self
    subst e
    cases r with
    | list _ _ _ _ => exact (flat_noref fv rv).elim
    | tuple _ _ _ _ => exact (flat_noref fv rv).elim
    | dict _ _ _ _ _ => exact (flat_noref fv rv).elim
    | _ => rfl
theorem vals_split : ∀ {xs ys : List V} {us : List Value}, Vals (xs ++ ys) us → ∃ is us2, us = is ++ us2 ∧ Vals xs is ∧ Vals ys us2
  | [], ys, us, r => ⟨[], us, rfl, .nil, r⟩
  | x :: xs, ys, _, .cons a b => by
    obtain ⟨is, us2, rfl, h1, h2⟩ := vals_split b
    exact ⟨_ :: is, us2, rfl, .cons a h1, h2⟩
theorem readsAll_snoc {h : Heap} {u : Value} {d : PyData} {bs : List Addr} (q : Reads h u d bs) : ∀ {us : List Value} {ds : List PyData} {as : List Addr}, ReadsAll h us ds as → ReadsAll h (us ++ [u]) (ds ++ [d]) (as ++ bs)
  | _, _, _, .nil => by
    have := ReadsAll.cons q .nil
    rw [List.append_nil] at this
    exact this
  | _, _, _, .cons r a => by
    rw [List.append_assoc]
    exact .cons r (readsAll_snoc q a)
theorem showAll_snoc {d : PyData} (h : d.showable = true) : ∀ {ds : List PyData}, PyData.showableAll ds = true → PyData.showableAll (ds ++ [d]) = true
  | [], _ => by
    rw [List.nil_append, PyData.showableAll, PyData.showableAll, h]
    rfl
  | x :: r, h1 => by
    rw [PyData.showableAll, Bool.and_eq_true] at h1
    rw [List.cons_append, PyData.showableAll, h1.1, showAll_snoc h h1.2]
    rfl
theorem call_reprE {X : Cx} (guard : X.A.guards = some []) (units : X.A.units + 66 < cLine) : CallR X (.builtin "repr") (rReprE X.K) := by
  intro pins s σ H xs us Q I r h
  obtain ⟨l, e, vs, ds, S, rfl, ⟨om, km, cm⟩, hl, dp, flat, he, sw, dep, sz, rfl, q⟩ := h
  obtain ⟨u, rfl, ru⟩ := vals1 r
  obtain rfl : u = Value.ref l := ru
  obtain ⟨its, rv, ⟨o, n, ho, hc, _, hd⟩, _⟩ := I.list (SqL.of hl)
  obtain ⟨is, us2, rfl, rv1, rv2⟩ : ∃ is us2, its = is ++ us2 ∧ Vals vs is ∧ Vals [V.ref e] us2 := by
    exact vals_split rv
  obtain ⟨ue, rfl, re⟩ := vals1 rv2
  obtain rfl : ue = Value.ref e := re
  obtain ⟨as, ra⟩ := Dp.readsAll I ds _ _ dp rv1
  obtain rfl := reads_flat ra rv1 flat
  obtain ⟨_, nsm, kvs, kv, dof⟩ := dk_of I.hok he
  cases kv
  obtain ⟨oe, es, ep, hoe, exact_, hde, _, prs, _⟩ := dof
  have es0 : es.toList = [] := by
    generalize es.toList = z at prs
    cases prs
    rfl
  have rde : Reads s.heap (.ref e) (.dict []) (e :: [] ++ []) := Reads.dict hoe exact_.1 hde (by rw [es0]; exact .nil) (by rw [es0]; exact .nil)
  have rd : Reads s.heap (.ref l) (.list (ds ++ [.dict []])) (l :: ([] ++ (e :: [] ++ []))) := Reads.list ho hc hd (by simpa using readsAll_snoc rde ra)
  have nl : l ≠ sysModules := fun z => by
    have k := I.kIn _ _ km
    rw [← z, ho] at k
    have := Option.some.inj k
    rw [← this, hc] at cm
    exact absurd cm (by decide)
  refine repr_of_reads' rd (by rw [PyData.showable]; exact showAll_snoc (by rw [PyData.showable, PyData.showableKv]) sw) (fun _ hm => ?_) guard (by omega) (fun _ _ e => e) (fun h' u tk hk => ⟨.str _, H, I.kept (t' := tk) hk, ⟨u, rfl⟩, q⟩) sz
  simp only [List.nil_append, List.append_nil, List.mem_cons, List.not_mem_nil, or_false] at hm
  rcases hm with hm | hm
  · exact nl hm.symm
  · rw [hm] at nsm
    simp at nsm
theorem call_reprX {X : Cx} (guard : X.A.guards = some []) (units : X.A.units + 66 < cLine) : CallR X (.builtin "repr") (fun xs H Q => rReprD X.K xs H Q ∨ rReprE X.K xs H Q) := by
  intro pins s σ H xs us Q I r h
  rcases h with h | h
  · exact call_reprD guard units pins s σ H xs us Q I r h
  · exact call_reprE guard units pins s σ H xs us Q I r h
/-- err.f in an except suite, the written part given -/
theorem pe_xfK {X : Cx} {K : PySem.W.Frag} {a C : Addr} {oe : Obj} {cls : Value} {d : Option Addr} {pn : List (Addr × Obj)} {e : Expr} {te : TE} {pos : Pos} {n : Str} (h : X.K = K) (T : XfC K C) (hno : PySem.W.findIn K (.ref C) n = some none) (hz : Zc cls d oe) (hf : ∃ vs, oe.data = .fields vs)
    (he : PE (X.suite a ((a, oe) :: pn)) e te) (hb : attributeBase e n X.env (eval e X.env) = eval e X.env := by rfl) : PE (X.suite a ((a, oe) :: pn)) (.Attribute e n pos) (tXf a cls d C n te) := by
  subst h
  exact pe_xf T hno hz hf he hb
/-- a rule whose wish speaks of the written part, that part given -/
theorem PE.k {X : Cx} {K : PySem.W.Frag} {e : Expr} {t : PySem.W.Frag → TE} (h : X.K = K) (p : PE X e (t X.K)) : PE X e (t K) := h ▸ p
end L2
/-! ## Own words, 11: an empty dict is not in a list of texts -/
namespace PySem.SeqAt
open AutoSeq1 (wpAny_loadPart')
open MeetsSeq
section
variable {M : Model} {A : Around} {E : Value → Shared → Prop} {s : Shared}
theorem str_eq_declines_dict (b : Str) (u : Tok) (l : Addr) (c : Value) (es : Array DictEntry) (n : Nat) (dd : Option Addr) (sl : Array (Option Value)) :
    Meets (Builtin.«str.__eq__» ⟨[.str b u, .ref l], []⟩) (fun _ R s => s.heap.get? l = some { cls := c, dict := dd, data := .dict es n, slots := sl } ∧ R (.ok (.ret .notImplemented)) s) :=
  .of_wp fun prog w A R s h => by obtain ⟨hp, g, d, tk, os⟩ := s; obtain ⟨hl, h⟩ := h; wp_walk using wpAny_loadPart' hl, wpAny_load hl; exact ⟨_, rfl, h⟩
theorem dict_eq_declines_str (l : Addr) (es : Array DictEntry) (n : Nat) (dd : Option Addr) (sl : Array (Option Value)) (b : Str) (u : Tok) :
    Meets (Builtin.«dict.__eq__» ⟨[.ref l, .str b u], []⟩) (fun _ R s => s.heap.get? l = some { cls := .type "dict", dict := dd, data := .dict es n, slots := sl } ∧ R (.ok (.ret .notImplemented)) s) :=
  .of_wp fun prog w A R s h => by obtain ⟨hp, g, d, tk, os⟩ := s; obtain ⟨hl, h⟩ := h; have f1 := F.sub_str_dict; wp_walk using wpAny_loadPart' hl, wpAny_load hl; exact ⟨_, rfl, h⟩
theorem RcAt.str_dict {l : Addr} {es : Array DictEntry} {n : Nat} {dd : Option Addr} {sl : Array (Option Value)} (b : Str) (u : Tok) (ho : s.heap.get? l = some { cls := .type "dict", dict := dd, data := .dict es n, slots := sl }) (hu : A.units < cLine) : RcAt A s (.str b u) (.ref l) false := fun prog w E Q h => by
  exact rc_eq_decline_or (k := false) (typeIs_str s b u) ⟨_, ho, rfl⟩ (by decide) F.sub_dict_str F.slot_str_eq F.slot_dict_eq_refl
    (fun _ hq => call_meets F.slot_str_eq (typeIs_str s b u) F.entry_str_eq (F.args_str_eq_2 _ _) (str_eq_declines_dict b u l (.type "dict") es n dd sl) ⟨ho, hq⟩)
    (fun _ hq => call_meets F.slot_dict_eq_refl ⟨_, ho, rfl⟩ F.entry_dict_eq (F.args_dict_eq_2 _ _) (dict_eq_declines_str l es n dd sl b u) ⟨ho, hq⟩)
    (fun _ hq => wpAny_of_eq (rfl : isSame (.str b u) (.ref l) = pure false) hq) (.inr hu) h
theorem EqAt.str_dict {l : Addr} {es : Array DictEntry} {n : Nat} {dd : Option Addr} {sl : Array (Option Value)} (b : Str) (u : Tok) (ho : s.heap.get? l = some { cls := .type "dict", dict := dd, data := .dict es n, slots := sl }) (hu : A.units < cLine) : EqAt A s (.str b u) (.ref l) false := fun prog w E Q h => by
  unfold eqBool
  refine wpAny_holding ?_
  refine wpAny_ite_split (fun hab => absurd (eq_of_beq hab) nofun) (fun _ => ?_)
  exact wpAny_bind (RcAt.str_dict b u ho hu prog w E _ (wpAny_truthy_bool h))
end
end PySem.SeqAt
namespace L2
open PySem PySem.Spec PyProof.Rows
def rNotInE : R2 := fun x y H Q => ∃ (e l : Addr) (ts : List Str), x = .ref e ∧ y = .ref l ∧ H e = some (.dK []) ∧ H l = some (.lst (ts.map V.str)) ∧ Q (.bl true) H
theorem valsTxts : ∀ {ts : List Str} {us : List Value}, Vals (ts.map V.str) us → ∀ y ∈ us, ∃ b u, y = Value.str b u
  | [], _, .nil, y, h => by cases h
  | t :: r, _, .cons a b, y, h => by
    rcases List.mem_cons.mp h with rfl | h
    · obtain ⟨k, e⟩ := a
      exact ⟨_, _, e⟩
    · exact valsTxts b y h
theorem op_notInE {X : Cx} (hu : X.A.units + 65 < cLine) : OpR X (compareOp .NotIn) rNotInE := by
  intro pins s σ H x y v u Q I rx ry h
  obtain ⟨e, l, ts, rfl, rfl, he, hl, q⟩ := h
  obtain rfl : v = Value.ref e := rx
  obtain rfl : u = Value.ref l := ry
  obtain ⟨its, rv, ⟨o, n, ho, hc, _, hd⟩, _⟩ := I.list (SqL.of hl)
  obtain ⟨_, nsm, kvs, kv, dof⟩ := dk_of I.hok he
  obtain ⟨⟨cls, dd, dt, sl⟩, es, ep, hoe, exact_, hde, _, prs, _⟩ := dof
  have e1 : cls = .type "dict" := exact_.1
  have e2 : dt = .dict es ep := hde
  subst e1 e2
  refine SeqAt.notIn_listAt (fun _ => false) ⟨o, ho, hc, n, hd⟩ (fun y hy => ?_) ⟨.bl _, H, I, rfl, ?_⟩
  · obtain ⟨b, t, rfl⟩ := valsTxts rv y (by simpa using hy)
    exact SeqAt.EqAt.str_dict b t hoe (by show X.A.units + 1 < cLine; omega)
  · have nf : ∀ zs : List Value, zs.any (fun _ => false) = false := fun zs => by
      induction zs with
      | nil => rfl
      | cons z r ih => rw [List.any_cons, ih]; rfl
    simpa [nf] using q
theorem op_notInX {X : Cx} (hu : X.A.units + 65 < cLine) : OpR X (compareOp .NotIn) (fun x y H Q => rNotInD X.K x y H Q ∨ rNotInE x y H Q) := by
  intro pins s σ H x y v u Q I rx ry h
  rcases h with h | h
  · exact op_notInD hu pins s σ H x y v u Q I rx ry h
  · exact op_notInE hu pins s σ H x y v u Q I rx ry h
end L2
/-! ## Own words, 12: a def called with keywords alone; a promise without refusals where refusals may be -/
namespace L2
open PySem PySem.Spec PyProof.Rows
section
variable {X : Cx} {CX : CXT} {k n : Nat} {f : Addr} {fd : FuncData} {ps ks : List Str} {sp : Sp} {E : XK} {x : Str} {p pos : Pos} {kws : List Keyword} {tk : TA} {g : List Value → List Value → List Value} {gV : List V → List V → List V}
def tCallKN (j : Nat) (sp : Sp) (gV : List V → List V → List V) (E : XK) (tk : TA) : TE := fun σ H Q => tk σ H fun zs H2 => zs.length = j ∧ sp (gV [] zs) H2 Q E
theorem pe_callKN (F : FnOk X.prog X.w X.K X.mg X.base CX k f fd ps sp) (hr : Room k X.A) (hg : Gl X x) (hm : X.mg x = some (.ref f)) (hk : PySem.W.keepIn X.K (.ref f) = true) (hb : KBn X.K fd ps 0 ks g gV) (hx : Passes CX X E) (hkw : PK X kws tk)
    (hall : (backToKw pos (keywordEach kws X.env)).all (·.1.isSome) = true := by rfl) (hks : (backToKw pos (keywordEach kws X.env)).filterMap (·.1) = ks := by rfl) (hdb : (x == ("__debug__" : Str)) = false := by decide)
    (hpl : ((backTo pos (starEach [] X.env)).any (·.1) || (backToKw pos (keywordEach kws X.env)).any (·.1.isNone)) = false := by rfl) :
    PE X (.Call (.Name x p) [] kws pos) (tCallKN ks.length sp gV E tk) := by
  refine ⟨fun pins s σ H Q I h => ?_⟩
  refine wpAny_Call_Name_kw (ld_glob I hg hm ?_ hdb)
  refine PySem.W.callWith_KW0 (h₀ := X.base) I.ok.mod.kin hk hall ?_ hpl
  refine thn (hkw.run pos pins s σ H _ I h) fun ws s2 ⟨zs, H2, I2, rz, l2, q2⟩ => ⟨I2.kIn, ?_⟩
  rw [hks]
  exact run_fnB (us := []) (vs := []) F hr hb hx I2 .nil rz rfl l2 q2
end
end L2
/-! ## Own words: d.update(e), both with ints and texts as keys -/
namespace L2
open PySem PySem.Spec PyProof.Rows
section
variable {X : Cx}
def rUpd : V → List V → Hp → VK → Prop := fun x vs H Q => ∃ (d e : Addr) (kvs more : List (Key × V)), x = .ref d ∧ vs = [.ref e] ∧ d ≠ e ∧ H d = some (.dK kvs) ∧ H e = some (.dK more) ∧ kvs.length + more.length ≤ sizeLine ∧ Q .non (upd H d (.dK (mergeK kvs more)))
theorem mt_updD : MtR X "dict.update" rUpd := by
  intro pins s σ H x vs v us Q I rx rv h
  obtain ⟨d, e, kvs, more, rfl, rfl, ne, hd, he, hz, q⟩ := h
  cases rx
  obtain ⟨u, rfl, ru⟩ := Vals.one rv
  cases ru
  obtain ⟨z, lo, ds, rel, dd⟩ := dk_of I.hok hd
  obtain ⟨z2, lo2, es, rel2, de⟩ := dk_of I.hok he
  refine call_meetsIn PySem.F.slot_dict_update dd.typeIs PySem.F.entry_dict_update (PySem.F.args_dict_update_2 _ _) (meets_dict_update (mixKind X.prog X.w) d e ne lo2)
    ⟨ds, es, dd, de, (by rw [← rel.length, ← rel2.length]; exact hz), fun h' hm _ hs => ?_⟩
  have hl : (mergeK kvs more).length ≤ sizeLine := Nat.le_trans (length_mergeK more kvs) hz
  have he' : ∃ q, h'.get? d = some q := let ⟨q, _, _, hq, _⟩ := hm; ⟨q, hq⟩
  exact ⟨.non, _, d_write I (by rw [hd]; exact True.intro) hs he' (dk_new hl lo (KV.merge rel2 rel) hm), rfl, q⟩
end
end L2
/-! ## Own words: dict(zip(xs, ys)) -/
namespace L2
open PySem PySem.Spec PyProof.Rows
section
variable {X : Cx} {e e2 : Expr} {ta : TA} {p pd pos posd : Pos}
theorem kv_zip : ∀ {ks : List Key} {ys : List V} {us : List Value}, Vals ys us → KV (ks.zip ys) (ks.zip us)
  | [], _, _, _ => by
    rw [List.zip_nil_left, List.zip_nil_left]
    exact .nil
  | k :: ks, [], us, r => by
    cases r
    rw [List.zip_nil_right, List.zip_nil_right]
    exact .nil
  | k :: ks, y :: ys, us, r => by
    cases r with
    | cons h t => exact .cons ⟨rfl, h⟩ (kv_zip t)
def tDictZip (K : PySem.W.Frag) (ta : TA) : TE := fun σ H Q => ta σ H fun vs H1 => ∃ (a b : Addr) (ks : List Key) (ys : List V), vs = [.ref a, .ref b] ∧ SqL K H1 a (ks.map kV) ∧ SqL K H1 b ys ∧ ys.length = ks.length ∧ ∀ p, H1 p = none → Q (.ref p) (upd H1 p (.dK (mergeK [] (ks.zip ys))))
theorem pe_dictZip (hcalm : X.calm = true) (hgd : Gl X "dict") (hmd : X.mg "dict" = none) (hv : bootBuiltins "dict" = some (.type "dict")) (hg : Gl X "zip") (hm : X.mg "zip" = none) (ha : PA X [e, e2] ta)
    (hs : starEach [e, e2] X.env = (false, eval e X.env) :: starEach [e2] X.env := by rfl) (hpl : (backTo pos (starEach [e2] X.env)).any (·.1) = false := by rfl)
    (hs2 : starEach [.Call (.Name "zip" p) [e, e2] [] pos] X.env = (false, eval (.Call (.Name "zip" p) [e, e2] [] pos) X.env) :: starEach [] X.env := by rfl) (hpl2 : (backTo posd (starEach [] X.env)).any (·.1) = false := by rfl) :
    PE X (.Call (.Name "dict" pd) [.Call (.Name "zip" p) [e, e2] [] pos] [] posd) (tDictZip X.K ta) := by
  refine ⟨fun pins s σ H Q I h => ?_⟩
  refine wpAny_Call_Name_kw (ld_blt I hgd hmd hv ?_ (by decide) (by decide))
  refine PyProof.Rows.callWith_type1 ?_ hs2 hpl2
  rw [hs2]
  show wpAny _ _ (spliced ((false, eval (.Call (.Name "zip" p) [e, e2] [] pos) X.env) :: backTo posd (starEach [] X.env))) _ _ s
  refine Calls.spliced_cons ?_
  refine Call_ (ld_blt I hg hm PyProof.Rows.boot_zip (PyProof.Rows.callWith_type1 (thn (ha.run pos pins s σ H _ I h) fun us s1 ⟨vs, H1, I1, r1, q1⟩ => ?_) hs hpl))
  obtain ⟨a, b, ks, ys, ex, hqx, hqy, hlen, q⟩ := q1
  subst ex
  cases r1 with
  | cons r rr =>
    cases rr with
    | cons r' rr =>
      cases rr
      cases r
      cases r'
      obtain ⟨its, rv, p1, hz1⟩ := I1.list hqx
      obtain ⟨its2, rv2, p2, _⟩ := I1.list hqy
      have la : a < s1.heap.objs.size := p1.lt
      have lb : b < s1.heap.objs.size := p2.lt
      have l1 := rv.length
      have l2 := rv2.length
      rw [List.length_map] at l1 hz1
      refine call_zip_2 p1.isList p2.isList fun h' hz hTI hTO h1 h2 hsz hk => ?_
      have I2 : Inv X pins σ H1 { s1 with heap := h' } := I1.kept (t' := s1.toks) hk
      refine Calls.spliced_nil ?_
      have D := PySem.W.ktu_apart s1.heap.objs.size a b la lb
      refine PySem.call_dict_pairs (knd := mixKind X.prog X.w) (kvs := ks.zip its2) (PairArg.zip _ _ _ _ _ _ _ D its.toArray its2.toArray) (I2.ok.hd hcalm) ⟨hz, hTI, ⟨_, _, hTO⟩, h1, h2, p1.isList.at fun o e => hk _ o e, p2.isList.at fun o e => hk _ o e⟩ ⟨?_, fun i key v hr => ?_⟩ ?_ fun h'' tk hd' hk' => ?_
      · rw [List.length_zip]
        show min ks.length its2.length = min its.length its2.length
        rw [l1]
      · obtain ⟨hr1, hr2⟩ := hr
        have hr1 : its[i]? = some key := by simpa using hr1
        have hr2 : its2[i]? = some v := by simpa using hr2
        have il := (List.getElem?_eq_some_iff.mp hr1).1
        obtain ⟨k, ek⟩ : ∃ k, ks[i]? = some k := ⟨_, List.getElem?_eq_getElem (by omega)⟩
        obtain ⟨u, hu, ru⟩ := rv.get (show (ks.map kV)[i]? = some (kV k) by rw [List.getElem?_map, ek]; rfl)
        rw [hr1] at hu
        cases hu
        exact ⟨k, by rw [List.getElem?_zip_eq_some]; exact ⟨ek, hr2⟩, kV_is ru⟩
      · show min its.length its2.length ≤ sizeLine
        exact Nat.le_trans (Nat.min_le_left ..) (by omega)
      · have big : s1.heap.objs.size ≤ h'.objs.size := by omega
        have hm : (h'.objs.size == sysModules) = false := beq_eq_false_iff_ne.mpr (Nat.ne_of_gt (Nat.lt_of_lt_of_le I1.big big))
        have hlen2 : (mergeK [] (ks.zip ys)).length ≤ sizeLine := by
          refine Nat.le_trans (length_mergeK (ks.zip ys) []) ?_
          rw [List.length_nil, Nat.zero_add, List.length_zip]
          omega
        refine ⟨.ref h'.objs.size, upd H1 h'.objs.size (.dK (mergeK [] (ks.zip ys))), I1.laid (t' := tk) (fun b o e => hk' b o (fun hb => ?_) (hk b o e)) big (show ObjOk X.prog X.w _ _ _ (.dK (mergeK [] (ks.zip ys))) from ⟨hlen2, hm, merged [] (ks.zip its2), KV.merge (kv_zip rv2) .nil, hd'⟩), rfl, q _ (I1.hok.fresh big)⟩
        have lt : b < s1.heap.objs.size := Heap.lt_size e
        have e' : b = s1.heap.objs.size + 4 ∨ b = s1.heap.objs.size + 3 ∨ b = s1.heap.objs.size ∨ b = s1.heap.objs.size + 1 := by simpa using hb
        have lt' : (b : Nat) < s1.heap.objs.size := lt
        rcases e' with z | z | z | z
        · exact absurd lt' (by rw [z]; exact Nat.not_lt.mpr (Nat.le_add_right _ _))
        · exact absurd lt' (by rw [z]; exact Nat.not_lt.mpr (Nat.le_add_right _ _))
        · exact absurd lt' (by rw [z]; exact Nat.lt_irrefl _)
        · exact absurd lt' (by rw [z]; exact Nat.not_lt.mpr (Nat.le_add_right _ _))
end
end L2
namespace Sw
open PySem PySem.Spec PyProof.Rows L2
/-! ### 1. the text by places -/
def top (i : Nat) : Stmt := PySem.Challenge.pw_sampleweave_k33_first_queues.main.body.getD i (.Pass ⟨0, 0, 0, 0⟩)
abbrev FnP (K : PySem.W.Frag) (x : Str) (st : Stmt) (f : Addr) (fd : FuncData) : Prop := FunD K x x (defArgs st) (defBody st) (defScope st) [] [] f fd
abbrev sWall : Stmt := top 0
abbrev sNoNodeInit : Stmt := inClass (top 3) 0
abbrev sNoNameInit : Stmt := inClass (top 5) 0
abbrev sTwiceInit : Stmt := inClass (top 6) 0
abbrev sUnknownInit : Stmt := inClass (top 7) 0
abbrev sNoPlaceInit : Stmt := inClass (top 8) 0
abbrev sNoDelayInit : Stmt := inClass (top 9) 0
abbrev sTakenInit : Stmt := inClass (top 10) 0
abbrev sBareInit : Stmt := inClass (top 11) 0
abbrev sUnfedInit : Stmt := inClass (top 12) 0
abbrev sUnlikeInit : Stmt := inClass (top 13) 0
abbrev sFirstQueues : Stmt := top 15
abbrev sWhole : Stmt := top 19
abbrev sWithin : Stmt := top 20
abbrev sTruth : Stmt := top 21
abbrev sWholes : Stmt := top 22
abbrev sAreWholesWithin : Stmt := top 23
abbrev sListOf : Stmt := top 24
abbrev sNeed : Stmt := top 25
abbrev sIsName : Stmt := top 26
abbrev sIsOneOf : Stmt := top 27
abbrev sNodeInit : Stmt := inClass (top 34) 0
abbrev sNodeTakes : Stmt := inClass (top 34) 1
abbrev sNodeGives : Stmt := inClass (top 34) 2
abbrev sNodeLate : Stmt := inClass (top 34) 3
abbrev sNodeBegin : Stmt := inClass (top 34) 4
abbrev sNodeFresh : Stmt := inClass (top 34) 5
abbrev sNodeFire : Stmt := inClass (top 34) 6
abbrev sNodeBegun : Stmt := inClass (top 34) 7
abbrev sNodeShown : Stmt := inClass (top 34) 8
abbrev sInletInit : Stmt := inClass (top 35) 0
abbrev sInletTakes : Stmt := inClass (top 35) 1
abbrev sInletGives : Stmt := inClass (top 35) 2
abbrev sInletLate : Stmt := inClass (top 35) 3
abbrev sInletBegin : Stmt := inClass (top 35) 4
abbrev sInletEq : Stmt := inClass (top 35) 5
abbrev sInletRepr : Stmt := inClass (top 35) 6
abbrev sOutletInit : Stmt := inClass (top 36) 0
abbrev sOutletTakes : Stmt := inClass (top 36) 1
abbrev sOutletGives : Stmt := inClass (top 36) 2
abbrev sOutletLate : Stmt := inClass (top 36) 3
abbrev sOutletBegin : Stmt := inClass (top 36) 4
abbrev sOutletEq : Stmt := inClass (top 36) 5
abbrev sOutletRepr : Stmt := inClass (top 36) 6
abbrev sGainInit : Stmt := inClass (top 37) 0
abbrev sGainTakes : Stmt := inClass (top 37) 1
abbrev sGainGives : Stmt := inClass (top 37) 2
abbrev sGainLate : Stmt := inClass (top 37) 3
abbrev sGainBegin : Stmt := inClass (top 37) 4
abbrev sGainFresh : Stmt := inClass (top 37) 5
abbrev sGainFire : Stmt := inClass (top 37) 6
abbrev sGainWork : Stmt := inClass (top 37) 7
abbrev sGainFactor : Stmt := inClass (top 37) 8
abbrev sGainTurned : Stmt := inClass (top 37) 9
abbrev sGainBegun : Stmt := inClass (top 37) 10
abbrev sGainEq : Stmt := inClass (top 37) 11
abbrev sGainRepr : Stmt := inClass (top 37) 12
abbrev sMixInit : Stmt := inClass (top 38) 0
abbrev sMixTakes : Stmt := inClass (top 38) 1
abbrev sMixGives : Stmt := inClass (top 38) 2
abbrev sMixLate : Stmt := inClass (top 38) 3
abbrev sMixBegin : Stmt := inClass (top 38) 4
abbrev sMixFresh : Stmt := inClass (top 38) 5
abbrev sMixFire : Stmt := inClass (top 38) 6
abbrev sMixWork : Stmt := inClass (top 38) 7
abbrev sMixBegun : Stmt := inClass (top 38) 8
abbrev sMixEq : Stmt := inClass (top 38) 9
abbrev sMixRepr : Stmt := inClass (top 38) 10
abbrev sTimesInit : Stmt := inClass (top 39) 0
abbrev sTimesTakes : Stmt := inClass (top 39) 1
abbrev sTimesGives : Stmt := inClass (top 39) 2
abbrev sTimesLate : Stmt := inClass (top 39) 3
abbrev sTimesBegin : Stmt := inClass (top 39) 4
abbrev sTimesFresh : Stmt := inClass (top 39) 5
abbrev sTimesFire : Stmt := inClass (top 39) 6
abbrev sTimesWork : Stmt := inClass (top 39) 7
abbrev sTimesBegun : Stmt := inClass (top 39) 8
abbrev sTimesEq : Stmt := inClass (top 39) 9
abbrev sTimesRepr : Stmt := inClass (top 39) 10
abbrev sClipInit : Stmt := inClass (top 40) 0
abbrev sClipTakes : Stmt := inClass (top 40) 1
abbrev sClipGives : Stmt := inClass (top 40) 2
abbrev sClipLate : Stmt := inClass (top 40) 3
abbrev sClipBegin : Stmt := inClass (top 40) 4
abbrev sClipFresh : Stmt := inClass (top 40) 5
abbrev sClipFire : Stmt := inClass (top 40) 6
abbrev sClipWork : Stmt := inClass (top 40) 7
abbrev sClipBegun : Stmt := inClass (top 40) 8
abbrev sClipEq : Stmt := inClass (top 40) 9
abbrev sClipRepr : Stmt := inClass (top 40) 10
abbrev sShareInit : Stmt := inClass (top 41) 0
abbrev sShareTakes : Stmt := inClass (top 41) 1
abbrev sShareGives : Stmt := inClass (top 41) 2
abbrev sShareLate : Stmt := inClass (top 41) 3
abbrev sShareBegin : Stmt := inClass (top 41) 4
abbrev sShareFresh : Stmt := inClass (top 41) 5
abbrev sShareFire : Stmt := inClass (top 41) 6
abbrev sShareWork : Stmt := inClass (top 41) 7
abbrev sShareBegun : Stmt := inClass (top 41) 8
abbrev sShareEq : Stmt := inClass (top 41) 9
abbrev sShareRepr : Stmt := inClass (top 41) 10
abbrev sChooseInit : Stmt := inClass (top 42) 0
abbrev sChooseTakes : Stmt := inClass (top 42) 1
abbrev sChooseGives : Stmt := inClass (top 42) 2
abbrev sChooseLate : Stmt := inClass (top 42) 3
abbrev sChooseBegin : Stmt := inClass (top 42) 4
abbrev sChooseFresh : Stmt := inClass (top 42) 5
abbrev sChooseFire : Stmt := inClass (top 42) 6
abbrev sChooseWork : Stmt := inClass (top 42) 7
abbrev sChooseBegun : Stmt := inClass (top 42) 8
abbrev sChooseEq : Stmt := inClass (top 42) 9
abbrev sChooseRepr : Stmt := inClass (top 42) 10
abbrev sOwnInit : Stmt := inClass (top 43) 0
abbrev sOwnTakes : Stmt := inClass (top 43) 1
abbrev sOwnGives : Stmt := inClass (top 43) 2
abbrev sOwnLate : Stmt := inClass (top 43) 3
abbrev sOwnBegin : Stmt := inClass (top 43) 4
abbrev sOwnFresh : Stmt := inClass (top 43) 5
abbrev sOwnFire : Stmt := inClass (top 43) 6
abbrev sOwnWork : Stmt := inClass (top 43) 7
abbrev sOwnBegun : Stmt := inClass (top 43) 8
abbrev sOwnEq : Stmt := inClass (top 43) 9
abbrev sOwnRepr : Stmt := inClass (top 43) 10
abbrev sTapsInit : Stmt := inClass (top 47) 0
abbrev sTapsTakes : Stmt := inClass (top 47) 1
abbrev sTapsGives : Stmt := inClass (top 47) 2
abbrev sTapsLate : Stmt := inClass (top 47) 3
abbrev sTapsBegin : Stmt := inClass (top 47) 4
abbrev sTapsFresh : Stmt := inClass (top 47) 5
abbrev sTapsFire : Stmt := inClass (top 47) 6
abbrev sTapsWork : Stmt := inClass (top 47) 7
abbrev sTapsBegun : Stmt := inClass (top 47) 8
abbrev sTapsEq : Stmt := inClass (top 47) 9
abbrev sTapsRepr : Stmt := inClass (top 47) 10
abbrev sLatchInit : Stmt := inClass (top 48) 0
abbrev sLatchTakes : Stmt := inClass (top 48) 1
abbrev sLatchGives : Stmt := inClass (top 48) 2
abbrev sLatchLate : Stmt := inClass (top 48) 3
abbrev sLatchBegin : Stmt := inClass (top 48) 4
abbrev sLatchFresh : Stmt := inClass (top 48) 5
abbrev sLatchFire : Stmt := inClass (top 48) 6
abbrev sLatchWork : Stmt := inClass (top 48) 7
abbrev sLatchBegun : Stmt := inClass (top 48) 8
abbrev sLatchEq : Stmt := inClass (top 48) 9
abbrev sLatchRepr : Stmt := inClass (top 48) 10
abbrev sCountInit : Stmt := inClass (top 49) 0
abbrev sCountTakes : Stmt := inClass (top 49) 1
abbrev sCountGives : Stmt := inClass (top 49) 2
abbrev sCountLate : Stmt := inClass (top 49) 3
abbrev sCountBegin : Stmt := inClass (top 49) 4
abbrev sCountFresh : Stmt := inClass (top 49) 5
abbrev sCountFire : Stmt := inClass (top 49) 6
abbrev sCountWork : Stmt := inClass (top 49) 7
abbrev sCountBegun : Stmt := inClass (top 49) 8
abbrev sCountEq : Stmt := inClass (top 49) 9
abbrev sCountRepr : Stmt := inClass (top 49) 10
abbrev sTapeInit : Stmt := inClass (top 50) 0
abbrev sTapeTakes : Stmt := inClass (top 50) 1
abbrev sTapeGives : Stmt := inClass (top 50) 2
abbrev sTapeLate : Stmt := inClass (top 50) 3
abbrev sTapeBegin : Stmt := inClass (top 50) 4
abbrev sTapeFresh : Stmt := inClass (top 50) 5
abbrev sTapeFire : Stmt := inClass (top 50) 6
abbrev sTapeWork : Stmt := inClass (top 50) 7
abbrev sTapeBegun : Stmt := inClass (top 50) 8
abbrev sTapeEq : Stmt := inClass (top 50) 9
abbrev sTapeRepr : Stmt := inClass (top 50) 10
abbrev sUpInit : Stmt := inClass (top 53) 0
abbrev sUpTakes : Stmt := inClass (top 53) 1
abbrev sUpGives : Stmt := inClass (top 53) 2
abbrev sUpLate : Stmt := inClass (top 53) 3
abbrev sUpBegin : Stmt := inClass (top 53) 4
abbrev sUpFresh : Stmt := inClass (top 53) 5
abbrev sUpFire : Stmt := inClass (top 53) 6
abbrev sUpWork : Stmt := inClass (top 53) 7
abbrev sUpBegun : Stmt := inClass (top 53) 8
abbrev sUpEq : Stmt := inClass (top 53) 9
abbrev sUpRepr : Stmt := inClass (top 53) 10
abbrev sDownInit : Stmt := inClass (top 54) 0
abbrev sDownTakes : Stmt := inClass (top 54) 1
abbrev sDownGives : Stmt := inClass (top 54) 2
abbrev sDownLate : Stmt := inClass (top 54) 3
abbrev sDownBegin : Stmt := inClass (top 54) 4
abbrev sDownFresh : Stmt := inClass (top 54) 5
abbrev sDownFire : Stmt := inClass (top 54) 6
abbrev sDownWork : Stmt := inClass (top 54) 7
abbrev sDownBegun : Stmt := inClass (top 54) 8
abbrev sDownEq : Stmt := inClass (top 54) 9
abbrev sDownRepr : Stmt := inClass (top 54) 10
abbrev sResampleInit : Stmt := inClass (top 55) 0
abbrev sResampleTakes : Stmt := inClass (top 55) 1
abbrev sResampleGives : Stmt := inClass (top 55) 2
abbrev sResampleLate : Stmt := inClass (top 55) 3
abbrev sResampleBegin : Stmt := inClass (top 55) 4
abbrev sResampleFresh : Stmt := inClass (top 55) 5
abbrev sResampleFire : Stmt := inClass (top 55) 6
abbrev sResampleWork : Stmt := inClass (top 55) 7
abbrev sResampleTapped : Stmt := inClass (top 55) 8
abbrev sResampleBegun : Stmt := inClass (top 55) 9
abbrev sResampleEq : Stmt := inClass (top 55) 10
abbrev sResampleRepr : Stmt := inClass (top 55) 11
abbrev sAllReached : Stmt := top 57
abbrev sNodesByName : Stmt := top 62
abbrev sCheckWire : Stmt := top 63
abbrev sWiresByGoal : Stmt := top 64
abbrev sRefuseBare : Stmt := top 65
abbrev sWiresBySource : Stmt := top 66
abbrev sRefuseUnfed : Stmt := top 67
abbrev sWeaveInit : Stmt := inClass (top 68) 0
abbrev sWeaveNames : Stmt := inClass (top 68) 1
abbrev sWeaveNode : Stmt := inClass (top 68) 2
abbrev sWeaveWires : Stmt := inClass (top 68) 3
abbrev sWeaveInlets : Stmt := inClass (top 68) 4
abbrev sWeaveOutlets : Stmt := inClass (top 68) 5
abbrev sWeaveInto : Stmt := inClass (top 68) 6
abbrev sWeaveOutOf : Stmt := inClass (top 68) 7
abbrev sWeavePut : Stmt := inClass (top 68) 8
abbrev sWeaveDelayed : Stmt := inClass (top 68) 9
abbrev sWeavePairs : Stmt := inClass (top 68) 10
abbrev sWeaveCheckKnown : Stmt := inClass (top 68) 11
abbrev sWeaveEq : Stmt := inClass (top 68) 12
abbrev sWeaveLen : Stmt := inClass (top 68) 13
abbrev sPot : Stmt := top 70
abbrev sLDigit : Stmt := top 71
abbrev sLNames : Stmt := top 72
abbrev sLMixed : Stmt := top 73
abbrev sLInlet : Stmt := top 74
abbrev sLShape : Stmt := top 75
abbrev sLMayFeed : Stmt := top 76
abbrev sLFeed : Stmt := top 77
abbrev sLShapes : Stmt := top 78
abbrev sLSpoil : Stmt := top 79
abbrev sLDeed : Stmt := top 80
abbrev sLSorts : Stmt := top 81
abbrev sLKept : Stmt := top 82
abbrev sLNode : Stmt := top 83
abbrev sLNodes : Stmt := top 84
abbrev sLLates : Stmt := top 85
abbrev sLWires : Stmt := top 86
abbrev sLDelays : Stmt := top 87
abbrev sLDue : Stmt := top 88
abbrev sLTold : Stmt := top 89
abbrev sLRight : Stmt := top 90
abbrev sLPutRight : Stmt := top 91
abbrev sLaw : Stmt := top 92
/-! ### 2. pots -/
/-- all but what stands at p is as it was -/
def Kept (p : Addr) (H H' : Hp) : Prop := ∀ b o, b ≠ p → H b = some o → H' b = some o
theorem Kept.refl {p : Addr} {H : Hp} : Kept p H H := fun _ _ _ h => h
theorem Kept.trans {p : Addr} {H H1 H2 : Hp} (a : Kept p H H1) (b : Kept p H1 H2) : Kept p H H2 := fun c o n h => b c o n (a c o n h)
theorem Kept.upd {p : Addr} {H H1 : Hp} {o : HO} (a : Kept p H H1) : Kept p H (upd H1 p o) := fun c o n h => by
  rw [upd_ne n]
  exact a c o n h
theorem Kept.new {p q : Addr} {H H1 : Hp} {o : HO} (a : Kept p H H1) (h : H1 q = none) : Kept p H (L2.upd H1 q o) := fun c o n e => by
  have e1 := a c o n e
  rw [upd_ne (ne_of_none e1 h)]
  exact e1
theorem Kept.same {p : Addr} {H H1 : Hp} (a : Same H H1) : Kept p H H1 := fun c o _ e => a c o e
/-- behind a heap in which nothing stood at p -/
theorem Same.kept {p : Addr} {H0 H H1 : Hp} (s : Same H0 H) (h : H0 p = none) (k : Kept p H H1) : Same H0 H1 := fun b o e =>
  k b o (fun z => by rw [z, h] at e; cases e) (s b o e)
theorem Same.new {H H1 : Hp} {q : Addr} {o : HO} (a : Same H H1) (h : H1 q = none) : Same H (upd H1 q o) := fun c u e => by
  have e1 := a c u e
  rw [upd_ne (ne_of_none e1 h)]
  exact e1
/-- a pot: two numbers from 0 on, the second one small -/
def PotAt (H : Hp) (p : Addr) : Prop := ∃ a b : Int, 0 ≤ a ∧ 0 ≤ b ∧ b < 2147500000 ∧ H p = some (.lst [.int a, .int b])
theorem PotAt.keep {H H1 : Hp} {p : Addr} (h : PotAt H p) (s : Same H H1) : PotAt H1 p := by
  obtain ⟨a, b, h1, h2, h3, h4⟩ := h
  exact ⟨a, b, h1, h2, h3, s _ _ h4⟩
/-! ### is_whole, is_whole_within -/
def NoInt (K : PySem.W.Frag) (H : Hp) (v : V) : Prop := (∃ b, v = .bl b) ∨ ∃ T : String, TyX K H v (.type T) ∧ kitB T "int" = some false
def OddV (K : PySem.W.Frag) (H : Hp) (v : V) : Prop := (∃ i : Int, v = .int i ∧ (i < 0 ∨ 400 < i)) ∨ NoInt K H v
def spWhole (K : PySem.W.Frag) : Sp := fun vs H Q _ => ∃ v : V, vs = [v] ∧ ((∃ i : Int, v = .int i ∧ Q (.bl true) H) ∨ (NoInt K H v ∧ Q (.bl false) H))
def spWithin (K : PySem.W.Frag) : Sp := fun vs H Q _ => ∃ (v : V) (lo hi : Int), vs = [v, .int lo, .int hi] ∧ ((∃ i : Int, v = .int i ∧ Q (.bl (decide (lo ≤ i ∧ i ≤ hi))) H) ∨ (NoInt K H v ∧ Q (.bl false) H))
section
variable {P : Program} {w : World} {K : PySem.W.Frag} {mg : Str → Option Value} {base : Heap} {f f1 f2 f3 f4 f5 f6 C CW CN : Addr} {fd fd1 fd2 fd3 fd4 fd5 fd6 : FuncData}
theorem scWhole : FnScope ["thing"] ["thing"] (defScope sWhole) := ⟨rfl, rfl, rfl, by decide +kernel, rfl, by decide +kernel, by decide +kernel⟩
theorem ok_whole (F : FnP K "is_whole" sWhole f fd) (gIs : mg "isinstance" = none) (gInt : mg "int" = none) (gBool : mg "bool" = none) : FnOk P w K mg base CX0 1 f fd ["thing"] (spWhole K) := by
  refine F.ok scWhole (fun vs H Q E h => ?_) (fun cdv A outer s H vs Q E hr h => ?_)
  · obtain ⟨v, rfl, _⟩ := h
    rfl
  · obtain ⟨v, rfl, h⟩ := h
    refine ⟨_, PSs.nox (pss_one (ps_ret (pe_and (pe_callB call_isi (by rfl) gIs boot_isinstance (pa_cons (pv 0) (pa_cons (pe_bltn (v := .ty "int") rfl gInt PyProof.Rows.boot_int rfl) pa_nil)))
      (pe_one (pe_not (pe_callB call_isi (by rfl) gIs boot_isinstance (pa_cons (pv 0) (pa_cons (pe_bltn (v := .ty "bool") rfl gBool PyProof.Rows.boot_bool rfl) pa_nil)))))))), ?_⟩
    rcases h with ⟨i, rfl, k⟩ | ⟨⟨b, rfl⟩ | ⟨T, ty, ki⟩, k⟩
    · refine ⟨_, rfl, _, _, _, _, true, rfl, ClsV.ty _, TyX.base (TyOf.int i), kit_ty (by decide +kernel), _, rfl, iteT ?_⟩
      exact ⟨_, rfl, _, _, _, _, false, rfl, ClsV.ty _, TyX.base (TyOf.int i), kit_ty (by decide +kernel), _, rfl, k⟩
    · refine ⟨_, rfl, _, _, _, _, true, rfl, ClsV.ty _, TyX.base (TyOf.bl b), kit_ty (by decide +kernel), _, rfl, iteT ?_⟩
      exact ⟨_, rfl, _, _, _, _, true, rfl, ClsV.ty _, TyX.base (TyOf.bl b), kit_ty (by decide +kernel), _, rfl, k⟩
    · exact ⟨_, rfl, _, _, _, _, false, rfl, ClsV.ty _, ty, kit_ty ki, _, rfl, iteF k⟩
theorem scWithin : FnScope ["thing", "least", "most"] ["thing", "least", "most"] (defScope sWithin) := ⟨rfl, rfl, rfl, by decide +kernel, rfl, by decide +kernel, by decide +kernel⟩
theorem ok_within (F : FnP K "is_whole_within" sWithin f fd) (GI : FnOk P w K mg base CX0 1 f1 fd1 ["thing"] (spWhole K)) (gI : mg "is_whole" = some (.ref f1)) (kI : PySem.W.keepIn K (.ref f1) = true) (bI : Binds K fd1 ["thing"] []) : FnOk P w K mg base CX0 2 f fd ["thing", "least", "most"] (spWithin K) := by
  refine F.ok scWithin (fun vs H Q E h => ?_) (fun cdv A outer s H vs Q E hr h => ?_)
  · obtain ⟨v, lo, hi, rfl, _⟩ := h
    rfl
  · obtain ⟨v, lo, hi, rfl, h⟩ := h
    refine ⟨_, PSs.nox (pss_one (ps_ret (pe_and (pe_call GI hr rfl gI kI bI .nil pass0 (pa_cons (pv 0) pa_nil)) (pe_one (pe_chain op_le op_le (pv 1) (pv 0) (pv 2)))))), ?_⟩
    rcases h with ⟨i, rfl, k⟩ | ⟨no, k⟩
    · refine ⟨_, rfl, _, rfl, .inl ⟨i, rfl, _, rfl, iteT ?_⟩⟩
      refine ⟨_, rfl, _, rfl, _, _, rfl, rfl, _, rfl, ?_⟩
      refine ite2 (fun h => ?_) (fun h => ?_)
      · refine ⟨_, rfl, _, _, rfl, rfl, ?_⟩
        have e : decide (lo ≤ i ∧ i ≤ hi) = decide (i ≤ hi) := decide_eq_decide.mpr ⟨fun z => z.2, fun z => ⟨of_decide_eq_true h, z⟩⟩
        rw [e] at k
        exact k
      · have e : decide (lo ≤ i ∧ i ≤ hi) = false := decide_eq_false fun z => h (decide_eq_true z.1)
        rw [e] at k
        exact k
    · exact ⟨_, rfl, _, rfl, .inr ⟨no, _, rfl, iteF k⟩⟩
end
/-! ### lists of ints as data -/
theorem dp_ints {K : PySem.W.Frag} {H : Hp} : ∀ ns : List Int, DpAll K H (ns.map V.int) (ns.map PyData.int)
  | [] => .nil
  | n :: ns => .cons (.int n) (dp_ints ns)
theorem lay_ints : ∀ ns : List Int, PyData.canLayAll0 (ns.map PyData.int) = true
  | [] => rfl
  | n :: ns => by
    rw [List.map_cons, PyData.canLayAll0, lay_ints ns]
    rfl
theorem depth_ints : ∀ ns : List Int, PyData.depthAll (ns.map PyData.int) = 0
  | [] => by rw [List.map_nil, PyData.depthAll]
  | n :: ns => by
    rw [List.map_cons, PyData.depthAll, depth_ints ns, PyData.depth]
    rfl
theorem shaped_ints (ns : List Int) : SeqAt.shaped (.list (ns.map PyData.int)) = true := by
  unfold SeqAt.shaped
  rw [PyData.canLay0, lay_ints, PyData.depth, depth_ints]
  rfl
theorem eqv_ints (ns : List Int) : PyData.eqv (.list (ns.map PyData.int)) (.list (ns.map PyData.int)) = true := by
  refine SeqAt.eqv_refl _ ?_
  rw [PyData.canLay0]
  exact lay_ints ns
theorem dp_at {K : PySem.W.Frag} {H : Hp} {a : Addr} {ns : List Int} (h : H a = some (.lst (ns.map V.int))) : Dp K H (.ref a) (.list (ns.map PyData.int)) := .lst (SqL.of h) (dp_ints ns)
/-! ### need, Node.__init__, run_firing -/
abbrev FnM (K : PySem.W.Frag) (x q : Str) (st : Stmt) (f : Addr) (fd : FuncData) : Prop := FunD K x q (defArgs st) (defBody st) (defScope st) [] [] f fd
theorem Same.tup {K : PySem.W.Frag} {H H1 : Hp} {a : Addr} {xs : List V} (s : Same H H1) (h : SqT K H a xs) : SqT K H1 a xs := by
  rcases h with (h | ⟨o, h⟩) | h
  · exact .inl (.inl (s _ _ h))
  · exact .inl (.inr ⟨o, s _ _ h⟩)
  · exact .inr h
theorem Kept.at {p b : Addr} {H H1 : Hp} {o u : HO} (k : Kept p H H1) (hp : H p = some u) (hb : H b = some o) (n : o ≠ u) : H1 b = some o := k b o (fun z => n (by rw [z, hp] at hb; exact (Option.some.inj hb).symm)) hb
theorem Kept.tup {K : PySem.W.Frag} {p a : Addr} {H H1 : Hp} {xs : List V} (k : Kept p H H1) (hp : PotAt H p) (h : SqT K H a xs) : SqT K H1 a xs := by
  obtain ⟨x, y, _, _, _, hp⟩ := hp
  rcases h with (h | ⟨o, h⟩) | h
  · exact .inl (.inl (k.at hp h (fun z => by cases z)))
  · exact .inl (.inr ⟨o, k.at hp h (fun z => by cases z)⟩)
  · exact .inr h
/-- an instance of the class at C, with these fields -/
def InsAt (H : Hp) (p C : Addr) (fs : List (Str × V)) : Prop := ∃ dx, H p = some (.ins C dx fs)
theorem InsAt.keep {H H1 : Hp} {p C : Addr} {fs : List (Str × V)} (h : InsAt H p C fs) (s : Same H H1) : InsAt H1 p C fs := by
  obtain ⟨dx, h⟩ := h
  exact ⟨dx, s _ _ h⟩
theorem InsAt.kept {H H1 : Hp} {p q C : Addr} {fs : List (Str × V)} (h : InsAt H p C fs) (k : Kept q H H1) (hq : PotAt H q) : InsAt H1 p C fs := by
  obtain ⟨dx, h⟩ := h
  obtain ⟨x, y, _, _, _, hq⟩ := hq
  exact ⟨dx, k.at hq h (fun z => by cases z)⟩
def spNeed : Sp := fun vs H Q _ => ∃ v : V, vs = [.bl true, v] ∧ Q .non H
/-- what all sorts keep -/
def nodeF (tm : Addr) (l b : Int) (fs : List (Str × V)) : List (Str × V) := putF "begin_at" (.int b) (putF "late_by" (.int l) (putF "made" (.ref tm) fs))
def spNodeInit (K : PySem.W.Frag) (C : Addr) : Sp := fun vs H Q _ => ∃ (p t dx : Addr) (fs : List (Str × V)) (xs : List V) (l b : Int), vs = [.ref p, .ref t, .int l, .int b] ∧ H p = some (.ins C dx fs) ∧ SqT K H t xs ∧ (0 ≤ l ∧ l ≤ 99) ∧ (0 ≤ b ∧ b ≤ 9999) ∧
  fs.length < 900 ∧ xs.length ≤ 1000 ∧ ∀ tm, H tm = none → Q .non (upd (upd H tm (.tup (xs ++ [.int l, .int b]))) p (.ins C dx (nodeF tm l b fs)))
structure NodeC (K : PySem.W.Frag) (C : Addr) : Prop where
  cl : Cls K C
  nM : NoAttr K C "made"
  nL : NoAttr K C "late_by"
  nB : NoAttr K C "begin_at"
theorem putF_le (f : Str) (v : V) : ∀ fs : List (Str × V), (putF f v fs).length ≤ fs.length + 1
  | [] => Nat.le_refl _
  | (g, x) :: r => by
    unfold putF
    split
    · exact Nat.le_succ _
    · exact Nat.succ_le_succ (putF_le f v r)
section
variable {P : Program} {w : World} {K : PySem.W.Frag} {mg : Str → Option Value} {base : Heap} {f f1 f2 f3 f4 f5 f6 C CW CN : Addr} {fd fd1 fd2 fd3 fd4 fd5 fd6 : FuncData}
theorem scNeed : FnScope ["holds", "field"] ["holds", "field"] (defScope sNeed) := ⟨rfl, rfl, rfl, by decide +kernel, rfl, by decide +kernel, by decide +kernel⟩
theorem ok_need (F : FnP K "need" sNeed f fd) : FnOk P w K mg base CX0 1 f fd ["holds", "field"] spNeed := by
  refine F.ok scNeed (fun vs H Q E h => ?_) (fun cdv A outer s H vs Q E hr h => ?_)
  · obtain ⟨v, rfl, _⟩ := h
    rfl
  · obtain ⟨v, rfl, k⟩ := h
    refine ⟨_, PSs.nox (pss_one (ps_if (pt_not (pt_val (pv 0))) pss_never pss_nil)), ?_⟩
    exact ⟨_, rfl, _, rfl, iteF k⟩
theorem scNodeInit : FnScope ["self", "arguments", "late", "begin"] ["self", "arguments", "late", "begin"] (defScope sNodeInit) := ⟨rfl, rfl, rfl, by decide +kernel, rfl, by decide +kernel, by decide +kernel⟩
theorem ok_nodeInit (F : FnM K "__init__" "Node.__init__" sNodeInit f fd) (GN : FnOk P w K mg base CX0 1 f1 fd1 ["holds", "field"] spNeed) (gN : mg "need" = some (.ref f1)) (kN : PySem.W.keepIn K (.ref f1) = true) (bN : Binds K fd1 ["holds", "field"] [])
    (GW : FnOk P w K mg base CX0 2 f2 fd2 ["thing", "least", "most"] (spWithin K)) (gW : mg "is_whole_within" = some (.ref f2)) (kW : PySem.W.keepIn K (.ref f2) = true) (bW : Binds K fd2 ["thing", "least", "most"] [])
    (gML : ∃ t, mg "MOST_LATE" = some (.int 99 t)) (gMB : ∃ t, mg "MOST_BEGIN" = some (.int 9999 t)) (T : NodeC K C) : FnOk P w K mg base CX0 3 f fd ["self", "arguments", "late", "begin"] (spNodeInit K C) := by
  obtain ⟨tL, gL⟩ := gML
  obtain ⟨tB, gB⟩ := gMB
  refine F.ok scNodeInit (fun vs H Q E h => ?_) (fun cdv A outer s H vs Q E hr h => ?_)
  · obtain ⟨p, t, dx, fs, xs, l, b, rfl, _⟩ := h
    rfl
  · obtain ⟨p, t, dx, fs, xs, l, b, rfl, hp, ht, hl, hb, hfs, hxs, k⟩ := h
    have hr1 : Room 1 _ := hr.mono (by decide)
    refine ⟨_, PSs.nox (pss_cons (ps_expr (pe_call GN hr1 rfl gN kN bN .nil pass0 (pa_cons (pe_call GW hr rfl gW kW bW .nil pass0 (pa_cons (pv 2) (pa_cons pe_int (pa_cons (pe_glob (v := .int 99) rfl gL ⟨_, rfl⟩) pa_nil)))) (pa_cons pe_str pa_nil))))
      (pss_cons (ps_expr (pe_call GN hr1 rfl gN kN bN .nil pass0 (pa_cons (pe_call GW hr rfl gW kW bW .nil pass0 (pa_cons (pv 3) (pa_cons pe_int (pa_cons (pe_glob (v := .int 9999) rfl gB ⟨_, rfl⟩) pa_nil)))) (pa_cons pe_str pa_nil))))
      (pss_cons (ps_fld (pv 0) (pe_tup (StX.pa_star (pv 1) (pa_cons (pv 2) (pa_cons (pv 3) pa_nil)))) rfl)
      (pss_cons (ps_fld (pv 0) (pv 2) rfl) (pss_one (ps_fld (pv 0) (pv 3) rfl)))))), ?_⟩
    refine ⟨_, rfl, _, 0, 99, rfl, .inl ⟨l, rfl, ?_⟩⟩
    rw [show decide ((0 : Int) ≤ l ∧ l ≤ 99) = true from decide_eq_true hl]
    refine ⟨_, rfl, ?_⟩
    refine ⟨_, rfl, _, 0, 9999, rfl, .inl ⟨b, rfl, ?_⟩⟩
    rw [show decide ((0 : Int) ≤ b ∧ b ≤ 9999) = true from decide_eq_true hb]
    refine ⟨_, rfl, ?_⟩
    refine ⟨_, rfl, t, xs, rfl, .inl ht, _, rfl, _, rfl, ?_, fun tm htm => ?_⟩
    · rw [List.length_append]
      exact Nat.le_trans (Nat.add_le_add_right hxs _) (by show 1000 + 2 ≤ sizeLine; decide)
    have npt : p ≠ tm := ne_of_none hp htm
    have l1 := putF_le "made" (.ref tm) fs
    have l2 := putF_le "late_by" (.int l) (putF "made" (.ref tm) fs)
    refine ⟨_, rfl, p, C, dx, _, rfl, (by rw [upd_ne npt]; exact hp), T.cl, T.nM, by omega, ?_⟩
    refine ⟨_, rfl, _, rfl, p, C, dx, _, rfl, upd_same, T.cl, T.nL, by omega, ?_⟩
    refine ⟨_, rfl, _, rfl, p, C, dx, _, rfl, upd_same, T.cl, T.nB, by omega, ?_⟩
    rw [upd_upd, upd_upd]
    exact k tm htm
end
/-! ### is_truth -/
def spTruth : Sp := fun vs H Q _ => ∃ b : Bool, vs = [.bl b] ∧ Q (.bl true) H
section
variable {P : Program} {w : World} {K : PySem.W.Frag} {mg : Str → Option Value} {base : Heap} {f f1 f2 f3 f4 f5 f6 C CW CN : Addr} {fd fd1 fd2 fd3 fd4 fd5 fd6 : FuncData}
theorem scTruth : FnScope ["thing"] ["thing"] (defScope sTruth) := ⟨rfl, rfl, rfl, by decide +kernel, rfl, by decide +kernel, by decide +kernel⟩
theorem ok_truth (F : FnP K "is_truth" sTruth f fd) : FnOk P w K mg base CX0 1 f fd ["thing"] spTruth := by
  refine F.ok scTruth (fun vs H Q E h => ?_) (fun cdv A outer s H vs Q E hr h => ?_)
  · obtain ⟨b, rfl, _⟩ := h
    rfl
  · obtain ⟨b, rfl, k⟩ := h
    refine ⟨_, PSs.nox (pss_one (ps_ret (pe_or (pe_cmpR op_isBl (pv 0) pe_bl (nomark _)) (pe_one (pe_cmpR op_isBl (pv 0) pe_bl (nomark _)))))), ?_⟩
    cases b with
    | true => exact ⟨_, rfl, true, true, rfl, rfl, true, rfl, iteT k⟩
    | false => exact ⟨_, rfl, false, true, rfl, rfl, false, rfl, iteF ⟨_, rfl, false, false, rfl, rfl, k⟩⟩
end
theorem nodeF_be (tm : Addr) (l b : Int) (fs : List (Str × V)) : (nodeF tm l b fs).lookup ("begin_at" : Str) = some (.int b) := by
  unfold nodeF
  rw [lookup_putF, if_pos rfl]
theorem nodeF_no {tm : Addr} {l b : Int} {fs : List (Str × V)} {m : Str} (h1 : m ≠ "begin_at") (h2 : m ≠ "late_by") (h3 : m ≠ "made") : (nodeF tm l b fs).lookup m = fs.lookup m := by
  unfold nodeF
  rw [lookup_putF, if_neg h1, lookup_putF, if_neg h2, lookup_putF, if_neg h3]
theorem nodeF_le (tm : Addr) (l b : Int) (fs : List (Str × V)) : (nodeF tm l b fs).length ≤ fs.length + 3 := by
  unfold nodeF
  have l1 := putF_le "made" (.ref tm) fs
  have l2 := putF_le "late_by" (.int l) (putF "made" (.ref tm) fs)
  have l3 := putF_le "begin_at" (.int b) (putF "late_by" (.int l) (putF "made" (.ref tm) fs))
  omega
/-! ### the fields of a node -/
def Num (n : Int) : Prop := -(10 ^ 56) < n ∧ n < 10 ^ 56
theorem Num.lt {n : Int} (h : Num n) : n.natAbs < 2 ^ 200 := by
  unfold Num at h
  omega
theorem Num.mul {x y : Int} (h : Num x) (h' : Num y) : CMulW x y := wide_mul h.lt h'.lt (by decide) (by decide) (by decide)
structure PlV (fs : List (Str × V)) (own : List (Str × V)) (b : Int) : Prop where
  be : fs.lookup ("begin_at" : Str) = some (.int b)
  fld : ∀ (m : Str) (x : V), own.lookup m = some x → fs.lookup m = some x
  no : ∀ m : Str, own.lookup m = none → m ≠ "begin_at" → m ≠ "late_by" → m ≠ "made" → fs.lookup m = none
theorem plV_mk {tm : Addr} {l b : Int} {fs own : List (Str × V)} (h : ∀ m : Str, fs.lookup m = own.lookup m) (n1 : own.lookup ("begin_at" : Str) = none) (n2 : own.lookup ("late_by" : Str) = none) (n3 : own.lookup ("made" : Str) = none) : PlV (nodeF tm l b fs) own b := by
  refine ⟨nodeF_be _ _ _ _, fun m x e => ?_, fun m e h3 h4 h5 => ?_⟩
  · rw [nodeF_no (fun z => by rw [z, n1] at e; cases e) (fun z => by rw [z, n2] at e; cases e) (fun z => by rw [z, n3] at e; cases e), h]
    exact e
  · rw [nodeF_no h3 h4 h5, h]
    exact e
theorem PlV.put {fs own : List (Str × V)} {b : Int} (h : PlV fs own b) (m : Str) (x : V) (n : m ≠ "begin_at") : PlV (putF m x fs) ((m, x) :: own) b := by
  refine ⟨?_, fun m' x' e => ?_, fun m' e h3 h4 h5 => ?_⟩
  · rw [lookup_putF, if_neg (Ne.symm n)]
    exact h.be
  · rw [lookup_putF]
    rw [List.lookup_cons] at e
    by_cases z : m' = m
    · rw [if_pos z]
      rw [z, beq_self_eq_true] at e
      exact e
    · rw [if_neg z]
      rw [beq_false_of_ne z] at e
      exact h.fld m' x' e
  · rw [lookup_putF]
    rw [List.lookup_cons] at e
    by_cases z : m' = m
    · rw [z, beq_self_eq_true] at e
      cases e
    · rw [if_neg z]
      rw [beq_false_of_ne z] at e
      exact h.no m' e h3 h4 h5
theorem made_same {C x dx : Addr} {H H' : Hp} (nx : H x = none) (nd : H dx = none) (ne : dx ≠ x) (k : Kept x (upd (upd H dx (.own x)) x (.ins C dx [])) H') : Same H H' :=
  Same.kept (Same.new (Same.new (Same.refl H) nd) (by rw [upd_ne ne.symm]; exact nx)) nx k
theorem Same.past {H0 H : Hp} {q : Addr} {o : HO} (k : Same H0 H) (h : H0 q = none) : Same H0 (L2.upd H q o) := fun b u e => by
  rw [upd_ne (ne_of_none e h)]
  exact k b u e
theorem Kept.past {p q : Addr} {H H1 : Hp} {o : HO} (k : Kept p H H1) (h : H q = none) : Kept p H (L2.upd H1 q o) := fun b u n e => by
  rw [upd_ne (ne_of_none e h)]
  exact k b u n e
/-! ### are_wholes, is_list_of_wholes -/
def spWholes (K : PySem.W.Frag) : Sp := fun vs H Q _ => ∃ (l : Addr) (ns : List Int), vs = [.ref l] ∧ SqL K H l (ns.map V.int) ∧ ns.length ≤ 1000 ∧ ∀ H', Same H H' → Q (.bl true) H'
def spListOf (K : PySem.W.Frag) : Sp := fun vs H Q _ => ∃ (l : Addr) (ns : List Int) (lo hi : Int), vs = [.ref l, .int lo, .int hi] ∧ H l = some (.lst (ns.map V.int)) ∧ ns.length ≤ 1000 ∧ lo ≤ (ns.length : Int) ∧ (ns.length : Int) ≤ hi ∧ ∀ H', Same H H' → Q (.bl true) H'
theorem all_true (n : Nat) : (List.replicate n true).all id = true := by
  rw [List.all_eq_true]
  intro b hb
  exact (List.mem_replicate.mp hb).2
section
variable {P : Program} {w : World} {K : PySem.W.Frag} {mg : Str → Option Value} {base : Heap} {f f1 f2 f3 f4 f5 f6 C CW CN : Addr} {fd fd1 fd2 fd3 fd4 fd5 fd6 : FuncData}
theorem scWholes : FnScope ["things", "thing"] ["things"] (defScope sWholes) := ⟨rfl, rfl, rfl, by decide +kernel, rfl, by decide +kernel, by decide +kernel⟩
theorem ok_wholes (F : FnP K "are_wholes" sWholes f fd) (GI : FnOk P w K mg base CX0 1 f1 fd1 ["thing"] (spWhole K)) (gI : mg "is_whole" = some (.ref f1)) (kI : PySem.W.keepIn K (.ref f1) = true) (bI : Binds K fd1 ["thing"] []) (gAll : mg "all" = none) :
    FnOk P w K mg base CX0 2 f fd ["things"] (spWholes K) := by
  refine F.ok scWholes (fun vs H Q E h => ?_) (fun cdv A outer s H vs Q E hr h => ?_)
  · obtain ⟨l, ns, rfl, _⟩ := h
    rfl
  · obtain ⟨l, ns, rfl, hl, few, k⟩ := h
    refine ⟨_, PSs.nox (pss_one (ps_ret (pe_callB (cr_all rfl) (by rfl) gAll (by decide +kernel) (pa_cons (pe_lc (own := [("thing", 1)]) (g := gName 1) (tt := tYes) rfl scWholes.nd (pi_list (pv 0)) (blkOk_by (N := ["things", "thing"]) (sc := defScope sWholes) (by decide +kernel))
      (fun _ _ _ _ _ => pg_name (i := 1) scWholes.nd rfl (Or.inl rfl)) (fun _ _ _ _ _ => pts_nil) (fun _ _ _ _ _ => pe_call GI hr rfl gI kI bI .nil pass0 (pa_cons (pv 1) pa_nil))) pa_nil)))), ?_⟩
    refine ⟨_, rfl, l, rfl, ⟨_, hl⟩, fun D hD => lc_list (K := K) (a := l) (xs := ns.map V.int) (fun i H' => H' = upd H D (.lst ((List.replicate i true).map V.bl))) rfl (fun i H' _ e => by rw [e]; exact Same.seq (Same.new (Same.refl _) hD) hl) (fun i v H' hv e => ?_) (fun H' e => ?_)⟩
    · subst e
      obtain ⟨u, rfl⟩ : ∃ u, v = V.int u := by
        rw [List.getElem?_map] at hv
        obtain ⟨u, _, e2⟩ := Option.map_eq_some_iff.mp hv
        exact ⟨u, e2.symm⟩
      have hi : i < ns.length := by
        have q := (List.getElem?_eq_some_iff.mp hv).1
        rw [List.length_map] at q
        exact q
      refine ⟨rfl, ?_⟩
      unfold tYes
      refine iteT ?_
      refine ⟨_, rfl, _, rfl, .inl ⟨u, rfl, _, upd_same, ?_, ?_⟩⟩
      · rw [List.length_map, List.length_replicate]
        exact Nat.lt_of_lt_of_le (show i < 1001 by omega) (by decide)
      · rw [upd_upd, List.replicate_succ', List.map_append]
        rfl
    · subst e
      refine ⟨D, _, rfl, SqL.of upd_same, ?_⟩
      rw [all_true]
      exact k _ (Same.new (Same.refl _) hD)
theorem scListOf : FnScope ["thing", "least", "most"] ["thing", "least", "most"] (defScope sListOf) := ⟨rfl, rfl, rfl, by decide +kernel, rfl, by decide +kernel, by decide +kernel⟩
theorem ok_listOf (F : FnP K "is_list_of_wholes" sListOf f fd) (GA : FnOk P w K mg base CX0 2 f1 fd1 ["things"] (spWholes K)) (gA : mg "are_wholes" = some (.ref f1)) (kA : PySem.W.keepIn K (.ref f1) = true) (bA : Binds K fd1 ["things"] [])
    (gIs : mg "isinstance" = none) (gList : mg "list" = none) (gLen : mg "len" = none) : FnOk P w K mg base CX0 3 f fd ["thing", "least", "most"] (spListOf K) := by
  refine F.ok scListOf (fun vs H Q E h => ?_) (fun cdv A outer s H vs Q E hr h => ?_)
  · obtain ⟨l, ns, lo, hi, rfl, _⟩ := h
    rfl
  · obtain ⟨l, ns, lo, hi, rfl, hl, few, h1, h2, k⟩ := h
    refine ⟨_, PSs.nox (pss_one (ps_ret (pe_and (pe_callB call_isi (by rfl) gIs boot_isinstance (pa_cons (pv 0) (pa_cons (pe_bltn (v := .ty "list") rfl gList PyProof.Rows.boot_list rfl) pa_nil)))
      (pe_and (pe_chain op_le op_le (pv 1) (pe_callB call_len_seq (by rfl) gLen PySem.boot_len (pa_cons (pv 0) pa_nil)) (pv 2)) (pe_one (pe_call GA hr rfl gA kA bA .nil pass0 (pa_cons (pv 0) pa_nil))))))), ?_⟩
    refine ⟨_, rfl, _, _, _, _, true, rfl, ClsV.ty _, TyX.base (TyOf.lst hl), kit_ty (by decide +kernel), _, rfl, iteT ?_⟩
    refine ⟨_, rfl, _, rfl, l, _, rfl, .inl (SqL.of hl), _, _, rfl, rfl, _, rfl, ?_⟩
    rw [List.length_map]
    refine ite2 (fun _ => ?_) (fun z => absurd (decide_eq_true h1) z)
    refine ⟨_, rfl, _, _, rfl, rfl, ?_⟩
    refine ⟨decide ((ns.length : Int) ≤ hi), rfl, ?_⟩
    rw [decide_eq_true h2]
    refine iteT ?_
    exact ⟨_, rfl, l, ns, rfl, SqL.of hl, few, k⟩
end
/-! ### lists of ints shown -/
theorem Num.log {n : Int} (h : Num n) : n.natAbs.log2 < 1920 := log2_of (b := 200) h.lt (by decide) (by decide)
theorem show_ints : ∀ cs : List Int, (∀ c ∈ cs, c.natAbs.log2 < 1920) → PyData.showableAll (cs.map PyData.int) = true
  | [], _ => by rw [List.map_nil, PyData.showableAll]
  | c :: r, h => by
    rw [List.map_cons, PyData.showableAll, show_ints r fun z hz => h z (List.mem_cons_of_mem _ hz), PyData.showable, decide_eq_true (h c List.mem_cons_self)]
    rfl
theorem intsD_show {ns : List Int} (h : ∀ n ∈ ns, n.natAbs.log2 < 1920) : (PyData.list (ns.map PyData.int)).showable = true := by
  rw [PyData.showable]
  exact show_ints ns h
theorem intsD_len {ns : List Int} (h : ∀ n ∈ ns, n.natAbs.log2 < 1920) (l : ns.length ≤ 1000) : (PyData.list (ns.map PyData.int)).shown.length ≤ sizeLine := by
  refine Nat.le_trans (shown_list (B := 1921) fun d hd => ?_) ?_
  · obtain ⟨n, hn, rfl⟩ := List.mem_map.mp hd
    exact shown_num (h n hn)
  · rw [List.length_map]
    exact Nat.le_trans (show (1921 + 2) * ns.length + 3 ≤ 1923 * 1000 + 3 by omega) (by decide)
/-- a list of one list of ints -/
theorem row1_shaped (xs : List Int) : SeqAt.shaped (.list [.list (xs.map PyData.int)]) = true := by
  unfold SeqAt.shaped
  rw [PyData.canLay0, PyData.canLayAll0, PyData.canLayAll0, PyData.canLay0, lay_ints, PyData.depth, PyData.depthAll, PyData.depthAll, PyData.depth, depth_ints]
  rfl
theorem row1_eqv (xs : List Int) : PyData.eqv (.list [.list (xs.map PyData.int)]) (.list [.list (xs.map PyData.int)]) = true := by
  refine SeqAt.eqv_refl _ ?_
  rw [PyData.canLay0, PyData.canLayAll0, PyData.canLayAll0, PyData.canLay0, lay_ints]
  rfl
theorem row1_dp {K : PySem.W.Frag} {H : Hp} {r r0 : Addr} {xs : List Int} (h : H r = some (.lst [.ref r0])) (h0 : H r0 = some (.lst (xs.map V.int))) : Dp K H (.ref r) (.list [.list (xs.map PyData.int)]) := .lst (SqL.of h) (.cons (dp_at h0) .nil)
end Sw
namespace Sw
open PySem PySem.Spec PyProof.Rows L2
/-! ### the head: facts by names -/
/-- as hookD, with one test more of the written part -/
def obsX (fa : List He.Fa) (fn : List He.DefD) (ex : PySem.W.Frag → Bool) (K : PySem.W.Frag) : Bool × He.AlD := (ex K, He.obsD fa fn K)
def obsXG (n : Nat) (fa : List He.Fa) (fn : List He.DefD) (ex : PySem.W.Frag → Bool) (g : Addr → Option Obj) : Bool × He.AlD := obsX fa fn ex (He.frG g (cStatics :: He.asD g n))
def hookX (n : Nat) (fa : List He.Fa) (fn : List He.DefD) (ex : PySem.W.Frag → Bool) : PySem.W.Hook where
  α := Bool × He.AlD
  obs := fun s => obsXG n fa fn ex s.heap.get?
  val := fun _ => (true, He.valD fn)
  says := fun _ h => ∃ K : PySem.W.Frag, K.In h ∧ ex K = true ∧ He.SaysD fa fn K
  of := fun _ _ e => ⟨_, He.frG_in, congrArg (fun z : Bool × He.AlD => z.1) e, congrArg (fun z : Bool × He.AlD => z.2) e⟩
  keeps := fun _ _ _ ⟨K, hK, c⟩ k => ⟨K, PySem.W.Frag.In.keeps hK k, c⟩
theorem obsXG_eq {n : Nat} {fa : List He.Fa} {fn : List He.DefD} {ex : PySem.W.Frag → Bool} {g : Addr → Option Obj} {s : Shared} (h : ∀ a, g a = s.heap.get? a) : obsXG n fa fn ex g = (hookX n fa fn ex).obs s := by
  have e : g = s.heap.get? := funext h
  rw [e] <;> rfl
def kitF (K : PySem.W.Frag) (t u : Value) (b : Bool) : Bool := decide (PySem.W.kitOne K t u = some b)
def dfn (x : Str) (st : Stmt) : He.DefD := ⟨(x, none), x, x, defArgs st, defBody st, defScope st, [], []⟩
/-- the same over a list of places that is written out -/
def obsXL (as : List Addr) (fa : List He.Fa) (fn : List He.DefD) (ex : PySem.W.Frag → Bool) (g : Addr → Option Obj) : Bool × He.AlD := obsX fa fn ex (He.frG g as)
def hookXL (as : List Addr) (fa : List He.Fa) (fn : List He.DefD) (ex : PySem.W.Frag → Bool) : PySem.W.Hook where
  α := Bool × He.AlD
  obs := fun s => obsXL as fa fn ex s.heap.get?
  val := fun _ => (true, He.valD fn)
  says := fun _ h => ∃ K : PySem.W.Frag, K.In h ∧ ex K = true ∧ He.SaysD fa fn K
  of := fun _ _ e => ⟨_, He.frG_in, congrArg (fun z : Bool × He.AlD => z.1) e, congrArg (fun z : Bool × He.AlD => z.2) e⟩
  keeps := fun _ _ _ ⟨K, hK, c⟩ k => ⟨K, PySem.W.Frag.In.keeps hK k, c⟩
theorem obsXL_eq {as : List Addr} {fa : List He.Fa} {fn : List He.DefD} {ex : PySem.W.Frag → Bool} {g : Addr → Option Obj} {s : Shared} (h : ∀ a, g a = s.heap.get? a) : obsXL as fa fn ex g = (hookXL as fa fn ex).obs s := by
  have e : g = s.heap.get? := funext h
  rw [e] <;> rfl
theorem run_parts2 {r : PySem.W.OpenRow} {q : Program} {as : List Addr} {fa1 fa2 : List He.Fa} {fn1 fn2 : List He.DefD} {ex : PySem.W.Frag → Bool} {M : Nat} {loose : List PySem.Str} {w : World}
    (h0 : HandSHeadRun.RunEq r q (hookXL as [] [] (fun _ => true)) (fun s => obsXL as [] [] (fun _ => true) (HandSHeadRun.getT s)) M loose w)
    (h1 : ∀ os : OsState, (HandSHeadRun.endF (HandSHeadRun.stepQ (HandSHeadRun.denQ HandSHeadRun.tabQ) r.prog w) M r.prog w os).map (fun s => ex (He.frG (HandSHeadRun.getT s) as)) = some true)
    (h2 : ∀ os : OsState, (HandSHeadRun.endF (HandSHeadRun.stepQ (HandSHeadRun.denQ HandSHeadRun.tabQ) r.prog w) M r.prog w os).map (fun s => fa1.all fun f => f.ok (He.frG (HandSHeadRun.getT s) as)) = some true)
    (h2' : ∀ os : OsState, (HandSHeadRun.endF (HandSHeadRun.stepQ (HandSHeadRun.denQ HandSHeadRun.tabQ) r.prog w) M r.prog w os).map (fun s => fa2.all fun f => f.ok (He.frG (HandSHeadRun.getT s) as)) = some true)
    (h3 : ∀ os : OsState, (HandSHeadRun.endF (HandSHeadRun.stepQ (HandSHeadRun.denQ HandSHeadRun.tabQ) r.prog w) M r.prog w os).map (fun s => (fn1.all fun d => d.ok (He.frG (HandSHeadRun.getT s) as), fn1.map fun d => He.fnW (He.frG (HandSHeadRun.getT s) as) d.at_)) = some (true, fn1.map He.DefD.val))
    (h4 : ∀ os : OsState, (HandSHeadRun.endF (HandSHeadRun.stepQ (HandSHeadRun.denQ HandSHeadRun.tabQ) r.prog w) M r.prog w os).map (fun s => (fn2.all fun d => d.ok (He.frG (HandSHeadRun.getT s) as), fn2.map fun d => He.fnW (He.frG (HandSHeadRun.getT s) as) d.at_)) = some (true, fn2.map He.DefD.val)) :
    HandSHeadRun.RunEq r q (hookXL as (fa1 ++ fa2) (fn1 ++ fn2) ex) (fun s => obsXL as (fa1 ++ fa2) (fn1 ++ fn2) ex (HandSHeadRun.getT s)) M loose w := by
  intro os
  have g0 := h0 os
  have g1 := h1 os
  have g2 := h2 os
  have g2' := h2' os
  have g3 := h3 os
  have g4 := h4 os
  clear h0 h1 h2 h2' h3 h4
  generalize HandSHeadRun.endF (HandSHeadRun.stepQ (HandSHeadRun.denQ HandSHeadRun.tabQ) r.prog w) M r.prog w os = x at g0 g1 g2 g2' g3 g4 ⊢
  cases x with
  | none => cases g1
  | some s =>
    have k0 := Option.some.inj g0
    have k1 := Option.some.inj g1
    have k2 := Option.some.inj g2
    have k2' := Option.some.inj g2'
    have k3 := Option.some.inj g3
    have k4 := Option.some.inj g4
    have a1 := congrArg Prod.fst k0
    have a2 := congrArg (fun z => z.2.1) k0
    have b1 := congrArg Prod.fst k3
    have b2 := congrArg Prod.snd k3
    have c1 := congrArg Prod.fst k4
    have c2 := congrArg Prod.snd k4
    dsimp only at a1 a2 b1 b2 c1 c2 k1 k2 k2'
    show some _ = some _
    congr 1
    refine Prod.ext a1 (Prod.ext a2 (Prod.ext k1 (Prod.ext ?_ ?_)))
    · show ((fa1 ++ fa2).all (fun f => f.ok (He.frG (HandSHeadRun.getT s) as)) && (fn1 ++ fn2).all fun d => d.ok (He.frG (HandSHeadRun.getT s) as)) = true
      rw [List.all_append, k2, k2', List.all_append, b1, c1]
      rfl
    · show ((fn1 ++ fn2).map fun d => He.fnW (He.frG (HandSHeadRun.getT s) as) d.at_) = (fn1 ++ fn2).map He.DefD.val
      rw [List.map_append, List.map_append, b2, c2]
def baseB (K : PySem.W.Frag) (C f : Addr) (m : Str) : Bool := PySem.W.readsIn K C (.type "type") && (decide (PySem.W.specialIn K (.ref C) "__getattribute__" = some (some (.builtin "type.__getattribute__"))) &&
  ((match PySem.W.findCls K (.ref C) (.type "type") m with
    | some (.val (.ref g)) => decide (g = f)
    | _ => false) && PySem.W.keepIn K (.ref f)))
theorem baseB_ok {K : PySem.W.Frag} {C f : Addr} {m : Str} (h : baseB K C f m = true) : BaseM K C m f := by
  obtain ⟨h1, h⟩ := He.ba h
  obtain ⟨h2, h⟩ := He.ba h
  obtain ⟨h3, h4⟩ := He.ba h
  refine ⟨h1, of_decide_eq_true h2, ?_, h4⟩
  cases e : PySem.W.findCls K (.ref C) (.type "type") m with
  | none =>
    rw [e] at h3
    cases h3
  | some r =>
    rw [e] at h3
    cases r with
    | val v =>
      cases v with
      | ref g => rw [of_decide_eq_true (show decide (g = f) = true from h3)]
      | _ => cases h3
    | get _ _ _ _ => cases h3
/-- the tuple that stands as a default in Own's def -/
def ownT (K : PySem.W.Frag) : Addr := match K.lookup (He.fAd K ("Own", some "__init__")) with
  | some ⟨_, _, .func fd, _⟩ => (match fd.defaults with
    | .ref T => (match K.lookup T with
      | some ⟨_, _, .seq its _, _⟩ => (match (its[0]? : Option Value) with
        | some (.ref a) => a
        | _ => 0)
      | _ => 0)
    | _ => 0)
  | _ => 0
def eqB (K : PySem.W.Frag) (C : Addr) (m : Str) : Bool := decide (PySem.W.findIn K (.ref C) m = some (some (.ref (He.ma K C m)))) && PySem.W.isFn K (.ref (He.ma K C m))
theorem eqB_ok {K : PySem.W.Frag} {C : Addr} {m : Str} (h : eqB K C m = true) : PySem.W.findIn K (.ref C) m = some (some (.ref (He.ma K C m))) ∧ PySem.W.isFn K (.ref (He.ma K C m)) = true := by
  obtain ⟨h1, h2⟩ := He.ba h
  exact ⟨of_decide_eq_true h1, h2⟩
theorem vals_take1 {vs : List V} {us : List Value} (r : Vals vs us) : Vals (vs.take 1) (us.take 1) := by
  cases r with
  | nil => exact .nil
  | cons a _ => exact .cons a .nil
def fn1 : List He.DefD := [dfn "is_whole" sWhole, dfn "is_whole_within" sWithin, dfn "is_truth" sTruth, dfn "are_wholes" sWholes, dfn "are_wholes_within" sAreWholesWithin, dfn "is_list_of_wholes" sListOf, dfn "need" sNeed, dfn "is_name" sIsName, dfn "is_one_of" sIsOneOf, dfn "all_reached" sAllReached, dfn "nodes_by_name" sNodesByName, dfn "check_wire" sCheckWire, dfn "wires_by_goal" sWiresByGoal, dfn "refuse_bare" sRefuseBare, dfn "wires_by_source" sWiresBySource, dfn "refuse_unfed" sRefuseUnfed, (⟨("first_queues", none), "first_queues", "first_queues", defArgs sFirstQueues, defBody sFirstQueues, defScope sFirstQueues, [], [("lates", .bl false)]⟩ : He.DefD), dfn "_law_pot" sPot, dfn "_law_digit" sLDigit, dfn "_law_names" sLNames, dfn "_law_mixed" sLMixed, dfn "_law_inlet" sLInlet, dfn "_law_shape" sLShape, dfn "_law_may_feed" sLMayFeed, dfn "_law_feed" sLFeed, dfn "_law_shapes" sLShapes, dfn "_law_sorts" sLSorts, dfn "_law_kept" sLKept, dfn "_law_node" sLNode, dfn "_law_spoil" sLSpoil, dfn "_law_lates" sLLates, dfn "_law_wires" sLWires, dfn "_law_delays" sLDelays, dfn "_law_nodes" sLNodes, dfn "_law_due" sLDue, dfn "_law_told" sLTold, dfn "_law_right" sLRight, dfn "_law_put_right" sLPutRight, dfn "law" sLaw, (⟨("Node", some "__init__"), "__init__", "Node.__init__", defArgs sNodeInit, defBody sNodeInit, defScope sNodeInit, [], []⟩ : He.DefD), (⟨("Inlet", some "__init__"), "__init__", "Inlet.__init__", defArgs sInletInit, defBody sInletInit, defScope sInletInit, [], []⟩ : He.DefD), (⟨("Inlet", some "takes"), "takes", "Inlet.takes", defArgs sInletTakes, defBody sInletTakes, defScope sInletTakes, [], []⟩ : He.DefD), (⟨("Inlet", some "gives"), "gives", "Inlet.gives", defArgs sInletGives, defBody sInletGives, defScope sInletGives, [], []⟩ : He.DefD), (⟨("Inlet", some "late"), "late", "Inlet.late", defArgs sInletLate, defBody sInletLate, defScope sInletLate, [], []⟩ : He.DefD), (⟨("Outlet", some "__init__"), "__init__", "Outlet.__init__", defArgs sOutletInit, defBody sOutletInit, defScope sOutletInit, [], []⟩ : He.DefD), (⟨("Outlet", some "takes"), "takes", "Outlet.takes", defArgs sOutletTakes, defBody sOutletTakes, defScope sOutletTakes, [], []⟩ : He.DefD), (⟨("Outlet", some "gives"), "gives", "Outlet.gives", defArgs sOutletGives, defBody sOutletGives, defScope sOutletGives, [], []⟩ : He.DefD), (⟨("Outlet", some "late"), "late", "Outlet.late", defArgs sOutletLate, defBody sOutletLate, defScope sOutletLate, [], []⟩ : He.DefD), (⟨("Gain", some "__init__"), "__init__", "Gain.__init__", defArgs sGainInit, defBody sGainInit, defScope sGainInit, [], [("late", .int 0), ("begin", .int 0)]⟩ : He.DefD), (⟨("Gain", some "takes"), "takes", "Gain.takes", defArgs sGainTakes, defBody sGainTakes, defScope sGainTakes, [], []⟩ : He.DefD), (⟨("Gain", some "gives"), "gives", "Gain.gives", defArgs sGainGives, defBody sGainGives, defScope sGainGives, [], []⟩ : He.DefD), (⟨("Gain", some "late"), "late", "Gain.late", defArgs sGainLate, defBody sGainLate, defScope sGainLate, [], []⟩ : He.DefD), (⟨("Mix", some "__init__"), "__init__", "Mix.__init__", defArgs sMixInit, defBody sMixInit, defScope sMixInit, [], [("late", .int 0), ("begin", .int 0)]⟩ : He.DefD), (⟨("Mix", some "takes"), "takes", "Mix.takes", defArgs sMixTakes, defBody sMixTakes, defScope sMixTakes, [], []⟩ : He.DefD), (⟨("Mix", some "gives"), "gives", "Mix.gives", defArgs sMixGives, defBody sMixGives, defScope sMixGives, [], []⟩ : He.DefD), (⟨("Mix", some "late"), "late", "Mix.late", defArgs sMixLate, defBody sMixLate, defScope sMixLate, [], []⟩ : He.DefD)]
def fn2 : List He.DefD := [(⟨("Times", some "__init__"), "__init__", "Times.__init__", defArgs sTimesInit, defBody sTimesInit, defScope sTimesInit, [], [("late", .int 0), ("begin", .int 0)]⟩ : He.DefD), (⟨("Times", some "takes"), "takes", "Times.takes", defArgs sTimesTakes, defBody sTimesTakes, defScope sTimesTakes, [], []⟩ : He.DefD), (⟨("Times", some "gives"), "gives", "Times.gives", defArgs sTimesGives, defBody sTimesGives, defScope sTimesGives, [], []⟩ : He.DefD), (⟨("Times", some "late"), "late", "Times.late", defArgs sTimesLate, defBody sTimesLate, defScope sTimesLate, [], []⟩ : He.DefD), (⟨("Clip", some "__init__"), "__init__", "Clip.__init__", defArgs sClipInit, defBody sClipInit, defScope sClipInit, [], [("late", .int 0), ("begin", .int 0)]⟩ : He.DefD), (⟨("Clip", some "takes"), "takes", "Clip.takes", defArgs sClipTakes, defBody sClipTakes, defScope sClipTakes, [], []⟩ : He.DefD), (⟨("Clip", some "gives"), "gives", "Clip.gives", defArgs sClipGives, defBody sClipGives, defScope sClipGives, [], []⟩ : He.DefD), (⟨("Clip", some "late"), "late", "Clip.late", defArgs sClipLate, defBody sClipLate, defScope sClipLate, [], []⟩ : He.DefD), (⟨("Share", some "__init__"), "__init__", "Share.__init__", defArgs sShareInit, defBody sShareInit, defScope sShareInit, [], [("late", .int 0), ("begin", .int 0)]⟩ : He.DefD), (⟨("Share", some "takes"), "takes", "Share.takes", defArgs sShareTakes, defBody sShareTakes, defScope sShareTakes, [], []⟩ : He.DefD), (⟨("Share", some "gives"), "gives", "Share.gives", defArgs sShareGives, defBody sShareGives, defScope sShareGives, [], []⟩ : He.DefD), (⟨("Share", some "late"), "late", "Share.late", defArgs sShareLate, defBody sShareLate, defScope sShareLate, [], []⟩ : He.DefD), (⟨("Choose", some "__init__"), "__init__", "Choose.__init__", defArgs sChooseInit, defBody sChooseInit, defScope sChooseInit, [], [("late", .int 0), ("begin", .int 0)]⟩ : He.DefD), (⟨("Choose", some "takes"), "takes", "Choose.takes", defArgs sChooseTakes, defBody sChooseTakes, defScope sChooseTakes, [], []⟩ : He.DefD), (⟨("Choose", some "gives"), "gives", "Choose.gives", defArgs sChooseGives, defBody sChooseGives, defScope sChooseGives, [], []⟩ : He.DefD), (⟨("Choose", some "late"), "late", "Choose.late", defArgs sChooseLate, defBody sChooseLate, defScope sChooseLate, [], []⟩ : He.DefD), (⟨("Own", some "__init__"), "__init__", "Own.__init__", defArgs sOwnInit, defBody sOwnInit, defScope sOwnInit, [.adr ownT, .int 1, .int 0], [("late", .int 0), ("begin", .int 0)]⟩ : He.DefD), (⟨("Own", some "takes"), "takes", "Own.takes", defArgs sOwnTakes, defBody sOwnTakes, defScope sOwnTakes, [], []⟩ : He.DefD), (⟨("Own", some "gives"), "gives", "Own.gives", defArgs sOwnGives, defBody sOwnGives, defScope sOwnGives, [], []⟩ : He.DefD), (⟨("Own", some "late"), "late", "Own.late", defArgs sOwnLate, defBody sOwnLate, defScope sOwnLate, [], []⟩ : He.DefD), (⟨("Taps", some "__init__"), "__init__", "Taps.__init__", defArgs sTapsInit, defBody sTapsInit, defScope sTapsInit, [], [("late", .int 0), ("begin", .int 0)]⟩ : He.DefD), (⟨("Taps", some "takes"), "takes", "Taps.takes", defArgs sTapsTakes, defBody sTapsTakes, defScope sTapsTakes, [], []⟩ : He.DefD), (⟨("Taps", some "gives"), "gives", "Taps.gives", defArgs sTapsGives, defBody sTapsGives, defScope sTapsGives, [], []⟩ : He.DefD), (⟨("Taps", some "late"), "late", "Taps.late", defArgs sTapsLate, defBody sTapsLate, defScope sTapsLate, [], []⟩ : He.DefD), (⟨("Latch", some "__init__"), "__init__", "Latch.__init__", defArgs sLatchInit, defBody sLatchInit, defScope sLatchInit, [], [("late", .int 0), ("begin", .int 0)]⟩ : He.DefD), (⟨("Latch", some "takes"), "takes", "Latch.takes", defArgs sLatchTakes, defBody sLatchTakes, defScope sLatchTakes, [], []⟩ : He.DefD), (⟨("Latch", some "gives"), "gives", "Latch.gives", defArgs sLatchGives, defBody sLatchGives, defScope sLatchGives, [], []⟩ : He.DefD), (⟨("Latch", some "late"), "late", "Latch.late", defArgs sLatchLate, defBody sLatchLate, defScope sLatchLate, [], []⟩ : He.DefD), (⟨("Count", some "__init__"), "__init__", "Count.__init__", defArgs sCountInit, defBody sCountInit, defScope sCountInit, [.int 0, .int 1, .int 0], [("late", .int 0), ("begin", .int 0)]⟩ : He.DefD), (⟨("Count", some "takes"), "takes", "Count.takes", defArgs sCountTakes, defBody sCountTakes, defScope sCountTakes, [], []⟩ : He.DefD), (⟨("Count", some "gives"), "gives", "Count.gives", defArgs sCountGives, defBody sCountGives, defScope sCountGives, [], []⟩ : He.DefD), (⟨("Count", some "late"), "late", "Count.late", defArgs sCountLate, defBody sCountLate, defScope sCountLate, [], []⟩ : He.DefD), (⟨("Tape", some "__init__"), "__init__", "Tape.__init__", defArgs sTapeInit, defBody sTapeInit, defScope sTapeInit, [.bl false], [("late", .int 0), ("begin", .int 0)]⟩ : He.DefD), (⟨("Tape", some "takes"), "takes", "Tape.takes", defArgs sTapeTakes, defBody sTapeTakes, defScope sTapeTakes, [], []⟩ : He.DefD), (⟨("Tape", some "gives"), "gives", "Tape.gives", defArgs sTapeGives, defBody sTapeGives, defScope sTapeGives, [], []⟩ : He.DefD), (⟨("Tape", some "late"), "late", "Tape.late", defArgs sTapeLate, defBody sTapeLate, defScope sTapeLate, [], []⟩ : He.DefD), (⟨("Up", some "__init__"), "__init__", "Up.__init__", defArgs sUpInit, defBody sUpInit, defScope sUpInit, [.bl false], [("late", .int 0), ("begin", .int 0)]⟩ : He.DefD), (⟨("Up", some "takes"), "takes", "Up.takes", defArgs sUpTakes, defBody sUpTakes, defScope sUpTakes, [], []⟩ : He.DefD), (⟨("Up", some "gives"), "gives", "Up.gives", defArgs sUpGives, defBody sUpGives, defScope sUpGives, [], []⟩ : He.DefD), (⟨("Up", some "late"), "late", "Up.late", defArgs sUpLate, defBody sUpLate, defScope sUpLate, [], []⟩ : He.DefD), (⟨("Down", some "__init__"), "__init__", "Down.__init__", defArgs sDownInit, defBody sDownInit, defScope sDownInit, [], [("late", .int 0), ("begin", .int 0)]⟩ : He.DefD), (⟨("Down", some "takes"), "takes", "Down.takes", defArgs sDownTakes, defBody sDownTakes, defScope sDownTakes, [], []⟩ : He.DefD), (⟨("Down", some "gives"), "gives", "Down.gives", defArgs sDownGives, defBody sDownGives, defScope sDownGives, [], []⟩ : He.DefD), (⟨("Down", some "late"), "late", "Down.late", defArgs sDownLate, defBody sDownLate, defScope sDownLate, [], []⟩ : He.DefD), (⟨("Resample", some "__init__"), "__init__", "Resample.__init__", defArgs sResampleInit, defBody sResampleInit, defScope sResampleInit, [], [("late", .int 0), ("begin", .int 0)]⟩ : He.DefD), (⟨("Resample", some "takes"), "takes", "Resample.takes", defArgs sResampleTakes, defBody sResampleTakes, defScope sResampleTakes, [], []⟩ : He.DefD), (⟨("Resample", some "gives"), "gives", "Resample.gives", defArgs sResampleGives, defBody sResampleGives, defScope sResampleGives, [], []⟩ : He.DefD), (⟨("Resample", some "late"), "late", "Resample.late", defArgs sResampleLate, defBody sResampleLate, defScope sResampleLate, [], []⟩ : He.DefD), (⟨("Weave", some "__init__"), "__init__", "Weave.__init__", defArgs sWeaveInit, defBody sWeaveInit, defScope sWeaveInit, [], []⟩ : He.DefD), (⟨("Weave", some "wires"), "wires", "Weave.wires", defArgs sWeaveWires, defBody sWeaveWires, defScope sWeaveWires, [], []⟩ : He.DefD), (⟨("Weave", some "node"), "node", "Weave.node", defArgs sWeaveNode, defBody sWeaveNode, defScope sWeaveNode, [], []⟩ : He.DefD), (⟨("Weave", some "check_known"), "check_known", "Weave.check_known", defArgs sWeaveCheckKnown, defBody sWeaveCheckKnown, defScope sWeaveCheckKnown, [], []⟩ : He.DefD), (⟨("Weave", some "pairs"), "pairs", "Weave.pairs", defArgs sWeavePairs, defBody sWeavePairs, defScope sWeavePairs, [], []⟩ : He.DefD), (⟨("Weave", some "put"), "put", "Weave.put", defArgs sWeavePut, defBody sWeavePut, defScope sWeavePut, [], []⟩ : He.DefD), (⟨("Weave", some "delayed"), "delayed", "Weave.delayed", defArgs sWeaveDelayed, defBody sWeaveDelayed, defScope sWeaveDelayed, [], []⟩ : He.DefD)]
def fn : List He.DefD := fn1 ++ fn2
def fa1 : List He.Fa := [.glo "is_whole", .glo "is_whole_within", .glo "is_truth", .glo "are_wholes", .glo "are_wholes_within", .glo "is_list_of_wholes", .glo "need", .glo "is_name", .glo "is_one_of", .glo "all_reached", .glo "nodes_by_name", .glo "check_wire", .glo "wires_by_goal", .glo "refuse_bare", .glo "wires_by_source", .glo "refuse_unfed", .glo "first_queues", .glo "_law_pot", .glo "_law_digit", .glo "_law_names", .glo "_law_mixed", .glo "_law_inlet", .glo "_law_shape", .glo "_law_may_feed", .glo "_law_feed", .glo "_law_shapes", .glo "_law_sorts", .glo "_law_kept", .glo "_law_node", .glo "_law_spoil", .glo "_law_lates", .glo "_law_wires", .glo "_law_delays", .glo "_law_nodes", .glo "_law_due", .glo "_law_told", .glo "_law_right", .glo "_law_put_right", .glo "law", .free "len", .free "max", .free "min", .free "abs", .free "sum", .free "range", .free "isinstance", .free "int", .free "bool", .free "list", .free "tuple", .free "str", .free "repr", .free "all", .free "enumerate", .free "dict", .free "zip", .int "MOST_LATE" 99, .int "MOST_BEGIN" 9999, .int "MOST_MIXED" 8, .int "MOST_OWN_PLACES" 4, .int "MOST_OWN_SAMPLES" 8, .int "MOST_NODES" 24, .int "MOST_WIRES" 48, .int "MOST_DELAY" 9999, .int "MOST_TAPS" 12, .int "MOST_TAPED" 60, .int "MOST_RATE" 8, .int "LONGEST_NAME" 8, .glo "Node", .glo "Weave", .glo "Inlet", .glo "Outlet", .glo "Gain", .glo "Mix", .glo "Times", .glo "Clip", .glo "Share", .glo "Choose", .glo "Own", .glo "Taps", .glo "Latch", .glo "Count", .glo "Tape", .glo "Up", .glo "Down", .glo "Resample", .glo "_law_deed", .cls "Inlet", .noat "Inlet" "made", .noat "Inlet" "late_by", .noat "Inlet" "begin_at", .mkr "Inlet", .meth "Inlet" "takes", .meth "Inlet" "gives", .meth "Inlet" "late", .cls "Outlet", .noat "Outlet" "made", .noat "Outlet" "late_by", .noat "Outlet" "begin_at", .mkr "Outlet", .meth "Outlet" "takes", .meth "Outlet" "gives", .meth "Outlet" "late", .cls "Gain", .noat "Gain" "made", .noat "Gain" "late_by", .noat "Gain" "begin_at", .noat "Gain" "by", .mkr "Gain", .meth "Gain" "takes", .meth "Gain" "gives", .meth "Gain" "late", .cls "Mix", .noat "Mix" "made", .noat "Mix" "late_by", .noat "Mix" "begin_at", .noat "Mix" "many", .mkr "Mix", .meth "Mix" "takes", .meth "Mix" "gives", .meth "Mix" "late", .cls "Times", .noat "Times" "made", .noat "Times" "late_by", .noat "Times" "begin_at", .mkr "Times", .meth "Times" "takes", .meth "Times" "gives", .meth "Times" "late", .cls "Clip"]
def fa2 : List He.Fa := [.noat "Clip" "made", .noat "Clip" "late_by", .noat "Clip" "begin_at", .noat "Clip" "low", .noat "Clip" "high", .mkr "Clip", .meth "Clip" "takes", .meth "Clip" "gives", .meth "Clip" "late", .cls "Share", .noat "Share" "made", .noat "Share" "late_by", .noat "Share" "begin_at", .noat "Share" "by", .mkr "Share", .meth "Share" "takes", .meth "Share" "gives", .meth "Share" "late", .cls "Choose", .noat "Choose" "made", .noat "Choose" "late_by", .noat "Choose" "begin_at", .mkr "Choose", .meth "Choose" "takes", .meth "Choose" "gives", .meth "Choose" "late", .cls "Own", .noat "Own" "made", .noat "Own" "late_by", .noat "Own" "begin_at", .noat "Own" "deed", .noat "Own" "taken", .noat "Own" "given", .noat "Own" "first", .mkr "Own", .meth "Own" "takes", .meth "Own" "gives", .meth "Own" "late", .cls "Taps", .noat "Taps" "made", .noat "Taps" "late_by", .noat "Taps" "begin_at", .noat "Taps" "numbers", .mkr "Taps", .meth "Taps" "takes", .meth "Taps" "gives", .meth "Taps" "late", .cls "Latch", .noat "Latch" "made", .noat "Latch" "late_by", .noat "Latch" "begin_at", .mkr "Latch", .meth "Latch" "takes", .meth "Latch" "gives", .meth "Latch" "late", .cls "Count", .noat "Count" "made", .noat "Count" "late_by", .noat "Count" "begin_at", .noat "Count" "first", .noat "Count" "step", .noat "Count" "size", .mkr "Count", .meth "Count" "takes", .meth "Count" "gives", .meth "Count" "late", .cls "Tape", .noat "Tape" "made", .noat "Tape" "late_by", .noat "Tape" "begin_at", .noat "Tape" "numbers", .noat "Tape" "again", .mkr "Tape", .meth "Tape" "takes", .meth "Tape" "gives", .meth "Tape" "late", .cls "Up", .noat "Up" "made", .noat "Up" "late_by", .noat "Up" "begin_at", .noat "Up" "many", .noat "Up" "hold", .mkr "Up", .meth "Up" "takes", .meth "Up" "gives", .meth "Up" "late", .cls "Down", .noat "Down" "made", .noat "Down" "late_by", .noat "Down" "begin_at", .noat "Down" "many", .mkr "Down", .meth "Down" "takes", .meth "Down" "gives", .meth "Down" "late", .cls "Resample", .noat "Resample" "made", .noat "Resample" "late_by", .noat "Resample" "begin_at", .noat "Resample" "numbers", .noat "Resample" "up", .noat "Resample" "down", .mkr "Resample", .meth "Resample" "takes", .meth "Resample" "gives", .meth "Resample" "late", .cls "Weave", .noat "Weave" "named", .noat "Weave" "leading", .noat "Weave" "laid", .noat "Weave" "leaving", .mkr "Weave", .meth "Weave" "wires", .meth "Weave" "node", .meth "Weave" "check_known", .meth "Weave" "pairs", .meth "Weave" "put", .meth "Weave" "delayed", .str "LETTERS" "abcdefghijklmnopqrstuvwxyz"]
def fa : List He.Fa := fa1 ++ fa2
def ex (K : PySem.W.Frag) : Bool := insB K (He.ga K "Inlet") (He.ga K "Node") && (kitF K (.ref (He.ga K "Inlet")) (.ref (He.ga K "Outlet")) false && (kitF K (.ref (He.ga K "Inlet")) (.ref (He.ga K "Inlet")) true && (insB K (He.ga K "Outlet") (He.ga K "Node") && (kitF K (.ref (He.ga K "Outlet")) (.ref (He.ga K "Outlet")) true && (kitF K (.ref (He.ga K "Outlet")) (.ref (He.ga K "Inlet")) false && (insB K (He.ga K "Gain") (He.ga K "Node") && (kitF K (.ref (He.ga K "Gain")) (.ref (He.ga K "Outlet")) false && (kitF K (.ref (He.ga K "Gain")) (.ref (He.ga K "Inlet")) false && (insB K (He.ga K "Mix") (He.ga K "Node") && (kitF K (.ref (He.ga K "Mix")) (.ref (He.ga K "Outlet")) false && (kitF K (.ref (He.ga K "Mix")) (.ref (He.ga K "Inlet")) false && (insB K (He.ga K "Times") (He.ga K "Node") && (kitF K (.ref (He.ga K "Times")) (.ref (He.ga K "Outlet")) false && (kitF K (.ref (He.ga K "Times")) (.ref (He.ga K "Inlet")) false && (insB K (He.ga K "Clip") (He.ga K "Node") && (kitF K (.ref (He.ga K "Clip")) (.ref (He.ga K "Outlet")) false && (kitF K (.ref (He.ga K "Clip")) (.ref (He.ga K "Inlet")) false && (insB K (He.ga K "Share") (He.ga K "Node") && (kitF K (.ref (He.ga K "Share")) (.ref (He.ga K "Outlet")) false && (kitF K (.ref (He.ga K "Share")) (.ref (He.ga K "Inlet")) false && (insB K (He.ga K "Choose") (He.ga K "Node") && (kitF K (.ref (He.ga K "Choose")) (.ref (He.ga K "Outlet")) false && (kitF K (.ref (He.ga K "Choose")) (.ref (He.ga K "Inlet")) false && (insB K (He.ga K "Own") (He.ga K "Node") && (kitF K (.ref (He.ga K "Own")) (.ref (He.ga K "Outlet")) false && (kitF K (.ref (He.ga K "Own")) (.ref (He.ga K "Inlet")) false && (insB K (He.ga K "Taps") (He.ga K "Node") && (kitF K (.ref (He.ga K "Taps")) (.ref (He.ga K "Outlet")) false && (kitF K (.ref (He.ga K "Taps")) (.ref (He.ga K "Inlet")) false && (insB K (He.ga K "Latch") (He.ga K "Node") && (kitF K (.ref (He.ga K "Latch")) (.ref (He.ga K "Outlet")) false && (kitF K (.ref (He.ga K "Latch")) (.ref (He.ga K "Inlet")) false && (insB K (He.ga K "Count") (He.ga K "Node") && (kitF K (.ref (He.ga K "Count")) (.ref (He.ga K "Outlet")) false && (kitF K (.ref (He.ga K "Count")) (.ref (He.ga K "Inlet")) false && (insB K (He.ga K "Tape") (He.ga K "Node") && (kitF K (.ref (He.ga K "Tape")) (.ref (He.ga K "Outlet")) false && (kitF K (.ref (He.ga K "Tape")) (.ref (He.ga K "Inlet")) false && (insB K (He.ga K "Up") (He.ga K "Node") && (kitF K (.ref (He.ga K "Up")) (.ref (He.ga K "Outlet")) false && (kitF K (.ref (He.ga K "Up")) (.ref (He.ga K "Inlet")) false && (insB K (He.ga K "Down") (He.ga K "Node") && (kitF K (.ref (He.ga K "Down")) (.ref (He.ga K "Outlet")) false && (kitF K (.ref (He.ga K "Down")) (.ref (He.ga K "Inlet")) false && (insB K (He.ga K "Resample") (He.ga K "Node") && (kitF K (.ref (He.ga K "Resample")) (.ref (He.ga K "Outlet")) false && (kitF K (.ref (He.ga K "Resample")) (.ref (He.ga K "Inlet")) false && (baseB K (He.ga K "Node") (He.ma K (He.ga K "Node") "__init__") "__init__"))))))))))))))))))))))))))))))))))))))))))))))))
abbrev R : PySem.W.OpenRow := PySem.W.OpenLaw.row PySem.Challenge.rw_sampleweave_k33_first_queues
def asL : List Nat := [3, 6, 4, 21, 31, 51, 63, 82, 101, 120, 139, 158, 177, 196, 215, 234, 244, 251, 258, 265, 270, 275, 282, 289, 294, 301, 372, 435, 496, 600, 690, 780, 870, 960, 1050, 1142, 1232, 1322, 1413, 1504, 1595, 1685, 1782, 1789, 1796, 1803, 1808, 1815, 1820, 1825, 1925, 1936, 1943, 1948, 1953, 1960, 1965, 1972, 1977, 1982, 1989, 1996, 2003, 2010, 2017, 2022, 2027, 2034, 2041, 2046, 2053, 2060, 2065, 2070, 0, 20, 30, 50, 62, 81, 100, 119, 138, 157, 176, 195, 214, 233, 243, 237, 250, 257, 264, 269, 274, 281, 288, 293, 300, 371, 434, 495, 599, 689, 779, 869, 959, 1049, 1141, 1231, 1321, 1412, 1503, 1594, 1684, 1781, 1788, 1795, 1802, 1807, 1814, 1819, 1824, 1924, 1935, 1942, 1947, 1952, 1959, 1964, 1971, 1976, 1981, 1988, 1995, 2002, 2009, 2016, 2021, 2026, 2033, 2040, 2045, 2052, 2059, 2064, 2069, 15, 16, 17, 18, 19, 29, 32, 48, 49, 61, 79, 80, 98, 99, 117, 118, 136, 137, 155, 156, 174, 175, 193, 194, 212, 213, 231, 232, 238, 239, 240, 241, 242, 245, 246, 247, 248, 249, 252, 253, 254, 255, 256, 259, 260, 261, 262, 263, 266, 267, 268, 271, 272, 273, 276, 277, 278, 279, 280, 283, 284, 285, 286, 287, 290, 291, 292, 295, 296, 297, 298, 299, 315, 322, 329, 336, 343, 350, 357, 364, 369, 370, 373, 374, 390, 397, 404, 411, 418, 425, 432, 433, 451, 458, 465, 472, 479, 486, 493, 494, 513, 520, 527, 534, 541, 548, 555, 562, 569, 576, 583, 590, 597, 598, 617, 624, 631, 638, 645, 652, 659, 666, 673, 680, 687, 688, 707, 714, 721, 728, 735, 742, 749, 756, 763, 770, 777, 778, 797, 804, 811, 818, 825, 832, 839, 846, 853, 860, 867, 868, 887, 894, 901, 908, 915, 922, 929, 936, 943, 950, 957, 958, 977, 984, 991, 998, 1005, 1012, 1019, 1026, 1033, 1040, 1047, 1048, 1069, 1076, 1083, 1090, 1097, 1104, 1111, 1118, 1125, 1132, 1139, 1140, 1159, 1166, 1173, 1180, 1187, 1194, 1201, 1208, 1215, 1222, 1229, 1230, 1249, 1256, 1263, 1270, 1277, 1284, 1291, 1298, 1305, 1312, 1319, 1320, 1340, 1347, 1354, 1361, 1368, 1375, 1382, 1389, 1396, 1403, 1410, 1411, 1431, 1438, 1445, 1452, 1459, 1466, 1473, 1480, 1487, 1494, 1501, 1502, 1522, 1529, 1536, 1543, 1550, 1557, 1564, 1571, 1578, 1585, 1592, 1593, 1612, 1619, 1626, 1633, 1640, 1647, 1654, 1661, 1668, 1675, 1682, 1683, 1702, 1709, 1716, 1723, 1730, 1737, 1744, 1751, 1758, 1765, 1772, 1779, 1780, 1785, 1786, 1787, 1790, 1791, 1792, 1793, 1794, 1797, 1798, 1799, 1800, 1801, 1804, 1805, 1806, 1809, 1810, 1811, 1812, 1813, 1816, 1817, 1818, 1821, 1822, 1823, 1837, 1844, 1851, 1858, 1865, 1872, 1879, 1886, 1891, 1896, 1901, 1908, 1915, 1922, 1923, 1926, 1927, 1930, 1931, 1932, 1933, 1934, 1937, 1938, 1939, 1940, 1941, 1944, 1945, 1946, 1949, 1950, 1951, 1954, 1955, 1956, 1957, 1958, 1961, 1962, 1963, 1966, 1967, 1968, 1969, 1970, 1973, 1974, 1975, 1978, 1979, 1980, 1983, 1984, 1985, 1986, 1987, 1990, 1991, 1992, 1993, 1994, 1997, 1998, 1999, 2000, 2001, 2004, 2005, 2006, 2007, 2008, 2011, 2012, 2013, 2014, 2015, 2018, 2019, 2020, 2023, 2024, 2025, 2028, 2029, 2030, 2031, 2032, 2035, 2036, 2037, 2038, 2039, 2042, 2043, 2044, 2047, 2048, 2049, 2050, 2051, 2054, 2055, 2056, 2057, 2058, 2061, 2062, 2063, 2066, 2067, 2068, 47, 78, 97, 116, 135, 154, 173, 192, 211, 230, 314, 321, 328, 335, 342, 349, 356, 363, 368, 389, 396, 403, 410, 417, 424, 431, 450, 457, 464, 471, 478, 485, 492, 512, 506, 519, 526, 533, 540, 547, 554, 561, 568, 575, 582, 589, 596, 616, 610, 623, 630, 637, 644, 651, 658, 665, 672, 679, 686, 706, 700, 713, 720, 727, 734, 741, 748, 755, 762, 769, 776, 796, 790, 803, 810, 817, 824, 831, 838, 845, 852, 859, 866, 886, 880, 893, 900, 907, 914, 921, 928, 935, 942, 949, 956, 976, 970, 983, 990, 997, 1004, 1011, 1018, 1025, 1032, 1039, 1046, 1068, 1061, 1062, 1075, 1082, 1089, 1096, 1103, 1110, 1117, 1124, 1131, 1138, 1158, 1152, 1165, 1172, 1179, 1186, 1193, 1200, 1207, 1214, 1221, 1228, 1248, 1242, 1255, 1262, 1269, 1276, 1283, 1290, 1297, 1304, 1311, 1318, 1339, 1332, 1333, 1346, 1353, 1360, 1367, 1374, 1381, 1388, 1395, 1402, 1409, 1430, 1423, 1424, 1437, 1444, 1451, 1458, 1465, 1472, 1479, 1486, 1493, 1500, 1521, 1514, 1515, 1528, 1535, 1542, 1549, 1556, 1563, 1570, 1577, 1584, 1591, 1611, 1605, 1618, 1625, 1632, 1639, 1646, 1653, 1660, 1667, 1674, 1681, 1701, 1695, 1708, 1715, 1722, 1729, 1736, 1743, 1750, 1757, 1764, 1771, 1778, 1836, 1843, 1850, 1857, 1864, 1871, 1878, 1885, 1890, 1895, 1900, 1907, 1914, 1921, 42, 43, 44, 45, 46, 73, 74, 75, 76, 77, 92, 93, 94, 95, 96, 111, 112, 113, 114, 115, 130, 131, 132, 133, 134, 149, 150, 151, 152, 153, 168, 169, 170, 171, 172, 187, 188, 189, 190, 191, 206, 207, 208, 209, 210, 225, 226, 227, 228, 229, 309, 310, 311, 312, 313, 316, 317, 318, 319, 320, 323, 324, 325, 326, 327, 330, 331, 332, 333, 334, 337, 338, 339, 340, 341, 344, 345, 346, 347, 348, 351, 352, 353, 354, 355, 358, 359, 360, 361, 362, 365, 366, 367, 384, 385, 386, 387, 388, 391, 392, 393, 394, 395, 398, 399, 400, 401, 402, 405, 406, 407, 408, 409, 412, 413, 414, 415, 416, 419, 420, 421, 422, 423, 426, 427, 428, 429, 430, 445, 446, 447, 448, 449, 452, 453, 454, 455, 456, 459, 460, 461, 462, 463, 466, 467, 468, 469, 470, 473, 474, 475, 476, 477, 480, 481, 482, 483, 484, 487, 488, 489, 490, 491, 507, 508, 509, 510, 511, 514, 515, 516, 517, 518, 521, 522, 523, 524, 525, 528, 529, 530, 531, 532, 535, 536, 537, 538, 539, 542, 543, 544, 545, 546, 549, 550, 551, 552, 553, 556, 557, 558, 559, 560, 563, 564, 565, 566, 567, 570, 571, 572, 573, 574, 577, 578, 579, 580, 581, 584, 585, 586, 587, 588, 591, 592, 593, 594, 595, 611, 612, 613, 614, 615, 618, 619, 620, 621, 622, 625, 626, 627, 628, 629, 632, 633, 634, 635, 636, 639, 640, 641, 642, 643, 646, 647, 648, 649, 650, 653, 654, 655, 656, 657, 660, 661, 662, 663, 664, 667, 668, 669, 670, 671, 674, 675, 676, 677, 678, 681, 682, 683, 684, 685, 701, 702, 703, 704, 705, 708, 709, 710, 711, 712, 715, 716, 717, 718, 719, 722, 723, 724, 725, 726, 729, 730, 731, 732, 733, 736, 737, 738, 739, 740, 743, 744, 745, 746, 747, 750, 751, 752, 753, 754, 757, 758, 759, 760, 761, 764, 765, 766, 767, 768, 771, 772, 773, 774, 775, 791, 792, 793, 794, 795, 798, 799, 800, 801, 802, 805, 806, 807, 808, 809, 812, 813, 814, 815, 816, 819, 820, 821, 822, 823, 826, 827, 828, 829, 830, 833, 834, 835, 836, 837, 840, 841, 842, 843, 844, 847, 848, 849, 850, 851, 854, 855, 856, 857, 858, 861, 862, 863, 864, 865, 881, 882, 883, 884, 885, 888, 889, 890, 891, 892, 895, 896, 897, 898, 899, 902, 903, 904, 905, 906, 909, 910, 911, 912, 913, 916, 917, 918, 919, 920, 923, 924, 925, 926, 927, 930, 931, 932, 933, 934, 937, 938, 939, 940, 941, 944, 945, 946, 947, 948, 951, 952, 953, 954, 955, 971, 972, 973, 974, 975, 978, 979, 980, 981, 982, 985, 986, 987, 988, 989, 992, 993, 994, 995, 996, 999, 1000, 1001, 1002, 1003, 1006, 1007, 1008, 1009, 1010, 1013, 1014, 1015, 1016, 1017, 1020, 1021, 1022, 1023, 1024, 1027, 1028, 1029, 1030, 1031, 1034, 1035, 1036, 1037, 1038, 1041, 1042, 1043, 1044, 1045, 1063, 1064, 1065, 1066, 1067, 1060, 1070, 1071, 1072, 1073, 1074, 1077, 1078, 1079, 1080, 1081, 1084, 1085, 1086, 1087, 1088, 1091, 1092, 1093, 1094, 1095, 1098, 1099, 1100, 1101, 1102, 1105, 1106, 1107, 1108, 1109, 1112, 1113, 1114, 1115, 1116, 1119, 1120, 1121, 1122, 1123, 1126, 1127, 1128, 1129, 1130, 1133, 1134, 1135, 1136, 1137, 1153, 1154, 1155, 1156, 1157, 1160, 1161, 1162, 1163, 1164, 1167, 1168, 1169, 1170, 1171, 1174, 1175, 1176, 1177, 1178, 1181, 1182, 1183, 1184, 1185, 1188, 1189, 1190, 1191, 1192, 1195, 1196, 1197, 1198, 1199, 1202, 1203, 1204, 1205, 1206, 1209, 1210, 1211, 1212, 1213, 1216, 1217, 1218, 1219, 1220, 1223, 1224, 1225, 1226, 1227, 1243, 1244, 1245, 1246, 1247, 1250, 1251, 1252, 1253, 1254, 1257, 1258, 1259, 1260, 1261, 1264, 1265, 1266, 1267, 1268, 1271, 1272, 1273, 1274, 1275, 1278, 1279, 1280, 1281, 1282, 1285, 1286, 1287, 1288, 1289, 1292, 1293, 1294, 1295, 1296, 1299, 1300, 1301, 1302, 1303, 1306, 1307, 1308, 1309, 1310, 1313, 1314, 1315, 1316, 1317, 1334, 1335, 1336, 1337, 1338, 1341, 1342, 1343, 1344, 1345, 1348, 1349, 1350, 1351, 1352, 1355, 1356, 1357, 1358, 1359, 1362, 1363, 1364, 1365, 1366, 1369, 1370, 1371, 1372, 1373, 1376, 1377, 1378, 1379, 1380, 1383, 1384, 1385, 1386, 1387, 1390, 1391, 1392, 1393, 1394, 1397, 1398, 1399, 1400, 1401, 1404, 1405, 1406, 1407, 1408, 1425, 1426, 1427, 1428, 1429, 1432, 1433, 1434, 1435, 1436, 1439, 1440, 1441, 1442, 1443, 1446, 1447, 1448, 1449, 1450, 1453, 1454, 1455, 1456, 1457, 1460, 1461, 1462, 1463, 1464, 1467, 1468, 1469, 1470, 1471, 1474, 1475, 1476, 1477, 1478, 1481, 1482, 1483, 1484, 1485, 1488, 1489, 1490, 1491, 1492, 1495, 1496, 1497, 1498, 1499, 1516, 1517, 1518, 1519, 1520, 1523, 1524, 1525, 1526, 1527, 1530, 1531, 1532, 1533, 1534, 1537, 1538, 1539, 1540, 1541, 1544, 1545, 1546, 1547, 1548, 1551, 1552, 1553, 1554, 1555, 1558, 1559, 1560, 1561, 1562, 1565, 1566, 1567, 1568, 1569, 1572, 1573, 1574, 1575, 1576, 1579, 1580, 1581, 1582, 1583, 1586, 1587, 1588, 1589, 1590, 1606, 1607, 1608, 1609, 1610, 1613, 1614, 1615, 1616, 1617, 1620, 1621, 1622, 1623, 1624, 1627, 1628, 1629, 1630, 1631, 1634, 1635, 1636, 1637, 1638, 1641, 1642, 1643, 1644, 1645, 1648, 1649, 1650, 1651, 1652, 1655, 1656, 1657, 1658, 1659, 1662, 1663, 1664, 1665, 1666, 1669, 1670, 1671, 1672, 1673, 1676, 1677, 1678, 1679, 1680, 1696, 1697, 1698, 1699, 1700, 1703, 1704, 1705, 1706, 1707, 1710, 1711, 1712, 1713, 1714, 1717, 1718, 1719, 1720, 1721, 1724, 1725, 1726, 1727, 1728, 1731, 1732, 1733, 1734, 1735, 1738, 1739, 1740, 1741, 1742, 1745, 1746, 1747, 1748, 1749, 1752, 1753, 1754, 1755, 1756, 1759, 1760, 1761, 1762, 1763, 1766, 1767, 1768, 1769, 1770, 1773, 1774, 1775, 1776, 1777, 1833, 1834, 1835, 1838, 1839, 1840, 1841, 1842, 1845, 1846, 1847, 1848, 1849, 1852, 1853, 1854, 1855, 1856, 1859, 1860, 1861, 1862, 1863, 1866, 1867, 1868, 1869, 1870, 1873, 1874, 1875, 1876, 1877, 1880, 1881, 1882, 1883, 1884, 1887, 1888, 1889, 1892, 1893, 1894, 1897, 1898, 1899, 1902, 1903, 1904, 1905, 1906, 1909, 1910, 1911, 1912, 1913, 1916, 1917, 1918, 1919, 1920, 1]
abbrev hk : PySem.W.Hook := hookXL (cStatics :: asL) fa fn ex
def ob (s : PySem.W.SharedT) : Bool × He.AlD := obsXL (cStatics :: asL) fa fn ex (HandSHeadRun.getT s)
theorem ob_eq (s : PySem.W.SharedT) : ob s = hk.obs s.abs := obsXL_eq (HandSHeadRun.getT_eq s)
def loose : List Str := (["_wall", "WeaveError", "NoNode", "TooMany", "NoName", "Twice", "Unknown", "NoPlace", "NoDelay", "Taken", "Bare", "Unfed", "Unlike", "first_queues", "LETTERS", "LONGEST_NAME"] : List Str) ++ (["is_whole", "is_whole_within", "is_truth", "are_wholes", "are_wholes_within", "is_list_of_wholes", "need", "is_name", "is_one_of", "MOST_LATE", "MOST_BEGIN", "MOST_MIXED", "MOST_OWN_PLACES", "MOST_OWN_SAMPLES", "Node", "Inlet"] : List Str) ++ (["Outlet", "Gain", "Mix", "Times", "Clip", "Share", "Choose", "Own", "MOST_TAPS", "MOST_TAPED", "Taps", "Latch", "Count", "Tape", "MOST_RATE", "Up"] : List Str) ++ (["Down", "Resample", "all_reached", "MOST_NODES", "MOST_WIRES", "MOST_DELAY", "nodes_by_name", "check_wire", "wires_by_goal", "refuse_bare", "wires_by_source", "refuse_unfed", "Weave", "_law_pot", "_law_digit", "_law_names"] : List Str) ++ (["_law_mixed", "_law_inlet", "_law_shape", "_law_may_feed", "_law_feed", "_law_shapes", "_law_spoil", "_law_deed", "_law_sorts", "_law_kept", "_law_node", "_law_nodes", "_law_lates", "_law_wires", "_law_delays", "_law_due"] : List Str) ++ (["_law_told", "_law_right", "_law_put_right"] : List Str)
theorem run0 (w : World) : HandSHeadRun.RunEq R (PySem.W.view R.prog [92]) (hookXL (cStatics :: asL) [] [] (fun _ => true)) (fun s => obsXL (cStatics :: asL) [] [] (fun _ => true) (HandSHeadRun.getT s)) 30000 loose w := by
  intro os
  kernel_rfl
theorem run1 (w : World) (os : OsState) : (HandSHeadRun.endF (HandSHeadRun.stepQ (HandSHeadRun.denQ HandSHeadRun.tabQ) R.prog w) 30000 R.prog w os).map (fun s => ex (He.frG (HandSHeadRun.getT s) (cStatics :: asL))) = some true := by
  kernel_rfl
theorem run2 (w : World) (os : OsState) : (HandSHeadRun.endF (HandSHeadRun.stepQ (HandSHeadRun.denQ HandSHeadRun.tabQ) R.prog w) 30000 R.prog w os).map (fun s => fa1.all fun f => f.ok (He.frG (HandSHeadRun.getT s) (cStatics :: asL))) = some true := by
  kernel_rfl
theorem run3 (w : World) (os : OsState) : (HandSHeadRun.endF (HandSHeadRun.stepQ (HandSHeadRun.denQ HandSHeadRun.tabQ) R.prog w) 30000 R.prog w os).map (fun s => fa2.all fun f => f.ok (He.frG (HandSHeadRun.getT s) (cStatics :: asL))) = some true := by
  kernel_rfl
theorem run4 (w : World) (os : OsState) : (HandSHeadRun.endF (HandSHeadRun.stepQ (HandSHeadRun.denQ HandSHeadRun.tabQ) R.prog w) 30000 R.prog w os).map (fun s => (fn1.all fun d => d.ok (He.frG (HandSHeadRun.getT s) (cStatics :: asL)), fn1.map fun d => He.fnW (He.frG (HandSHeadRun.getT s) (cStatics :: asL)) d.at_)) = some (true, fn1.map He.DefD.val) := by
  kernel_rfl
theorem run5 (w : World) (os : OsState) : (HandSHeadRun.endF (HandSHeadRun.stepQ (HandSHeadRun.denQ HandSHeadRun.tabQ) R.prog w) 30000 R.prog w os).map (fun s => (fn2.all fun d => d.ok (He.frG (HandSHeadRun.getT s) (cStatics :: asL)), fn2.map fun d => He.fnW (He.frG (HandSHeadRun.getT s) (cStatics :: asL)) d.at_)) = some (true, fn2.map He.DefD.val) := by
  kernel_rfl
theorem run (w : World) : HandSHeadRun.RunEq R (PySem.W.view R.prog [92]) hk ob 30000 loose w := run_parts2 (r := R) (fa1 := fa1) (fa2 := fa2) (fn1 := fn1) (fn2 := fn2) (run0 w) (run1 w) (run2 w) (run3 w) (run4 w) (run5 w)
end Sw
namespace Sw
open PySem PySem.Spec PyProof.Rows L2
/-! ### names -/
abbrev letters : Str := "abcdefghijklmnopqrstuvwxyz"
def NmOk (x : Str) : Prop := 1 ≤ x.length ∧ x.length ≤ 8 ∧ ∀ c ∈ x.cps.toList, c ∈ letters.cps.toList
theorem iteT_ {p : Bool} {a b : Prop} (h : p = true) (x : a) : if p = true then a else b := by
  rw [if_pos h]
  exact x
theorem iteF_ {p : Bool} {a b : Prop} (h : p = false) (x : b) : if p = true then a else b := by
  rw [if_neg (by rw [h]; decide)]
  exact x
def spName : Sp := fun vs H Q _ => ∃ x : Str, vs = [.str x] ∧ NmOk x ∧ ∀ H', Same H H' → Q (.bl true) H'
section
variable {P : Program} {w : World} {K : PySem.W.Frag} {mg : Str → Option Value} {base : Heap} {f f1 f2 f3 f4 f5 f6 f7 f8 f9 C CN CO CI CW : Addr} {fd fd1 fd2 fd3 fd4 fd5 fd6 fd7 fd8 fd9 : FuncData}
abbrev nIsName : List Str := ["thing", "letter"]
theorem scIsName : FnScope nIsName ["thing"] (defScope sIsName) := ⟨rfl, rfl, rfl, by decide +kernel, rfl, by decide +kernel, by decide +kernel⟩
theorem ok_isName (F : FnP K "is_name" sIsName f fd) (gLE : ∃ t, mg "LETTERS" = some (.str letters t)) (gLO : ∃ t, mg "LONGEST_NAME" = some (.int 8 t)) (gIs : mg "isinstance" = none) (gStr : mg "str" = none) (gLen : mg "len" = none) (gAll : mg "all" = none) : FnOk P w K mg base CX0 1 f fd ["thing"] spName := by
  obtain ⟨tL, gLO⟩ := gLO
  obtain ⟨tE, gLE⟩ := gLE
  refine F.ok scIsName (fun vs H Q E h => ?_) (fun cdv A outer s H vs Q E hr h => ?_)
  · obtain ⟨x, rfl, _⟩ := h
    rfl
  · obtain ⟨x, rfl, ⟨x1, x8, xl⟩, kk⟩ := h
    have nd := scIsName.nd
    refine ⟨_, PSs.nox (pss_cons (ps_if (PW.pt (pw_or (pt_not (pt_val (pe_callB call_isi (by rfl) gIs boot_isinstance (pa_cons (pv 0) (pa_cons (pe_bltn (v := .ty "str") rfl gStr PyProof.Rows.boot_str rfl) pa_nil))))) (pw_or1 (pt_not (pt_chain op_le op_le pe_int (pe_callB call_len_str (by rfl) gLen PySem.boot_len (pa_cons (pv 0) pa_nil)) (pe_glob (v := .int 8) rfl gLO ⟨_, rfl⟩)))))) (pss_one (ps_ret pe_bl)) pss_nil)
      (pss_one (ps_ret (pe_callB (cr_all rfl) (by rfl) gAll (by decide +kernel) (pa_cons (pe_lc (own := [("letter", 1)]) (g := (gName 1)) (tt := tYes) rfl nd (pi_str (pv 0)) (blkOk_by (N := nIsName) (sc := defScope sIsName) (by decide +kernel))
        (fun _ _ _ _ _ => (pg_name (i := 1) nd rfl (Or.inl rfl))) (fun _ _ _ _ _ => pts_nil) (fun _ _ _ _ _ => (pe_cmpR op_in_sign (pv 1) (pe_glob (v := .str letters) rfl gLE ⟨_, rfl⟩) rfl))) pa_nil))))), ?_⟩
    refine ⟨_, rfl, _, _, _, _, true, rfl, ClsV.ty _, TyX.base (TyOf.str x), kit_ty (by decide +kernel), _, rfl, iteF ?_⟩
    refine ⟨_, rfl, x, rfl, ?_, _, _, rfl, rfl, _, rfl, iteT_ (decide_eq_true (by omega)) ?_⟩
    · exact Nat.le_trans x8 (by decide)
    refine ⟨_, _, rfl, rfl, _, rfl, iteF_ ?_ ?_⟩
    · show (!decide _) = false
      rw [decide_eq_true (by omega)]
      rfl
    refine ⟨_, rfl, x, rfl, fun D hD => ?_⟩
    refine lc_it (walk_str (z := x)) (fun j H' => H' D = some (.lst ((List.replicate j true).map V.bl)) ∧ Same H H') ⟨upd_same, Same.past (Same.refl _) hD⟩ (fun _ _ _ _ => trivial) (fun j v H' H'' hj e y => ?_) (fun H' e => ?_)
    · obtain ⟨hd, s2⟩ := e
      obtain ⟨rfl, c, ec, rfl⟩ := y
      refine ⟨rfl, ?_⟩
      refine yes_ite ?_
      refine ⟨_, rfl, c, _, rfl, rfl, _, hd, ?_, ?_, Same.past s2 hD⟩
      · rw [List.length_map, List.length_replicate]
        exact Nat.lt_of_lt_of_le hj (Nat.le_trans x8 (by decide))
      · have cm : c ∈ x.cps.toList := by
          rw [← Array.getElem?_toList] at ec
          exact List.mem_of_getElem? ec
        rw [decide_eq_true (xl c cm), List.replicate_succ', List.map_append]
        exact upd_same
    · obtain ⟨hd, s2⟩ := e
      refine ⟨D, _, rfl, SqL.of hd, ?_⟩
      rw [all_true]
      exact kk _ s2
end
end Sw
namespace Sw
open PySem PySem.Spec PyProof.Rows L2
/-! ### sorts of nodes, as a weave sees them -/
structure Sorts (K : PySem.W.Frag) (CN CO CI : Addr) where
  α : Type
  As : List α
  cl : α → Addr
  at_ : α → Addr → List Nat → Hp → Prop
  out : α → Bool
  inl : α → Bool
  ins : ∀ A a ts H, at_ A a ts H → ∃ dx fs, H a = some (.ins (cl A) dx fs) ∧ fs.lookup ("takes" : Str) = none
  keep : ∀ A a ts H H1, Same H H1 → at_ A a ts H → at_ A a ts H1
  few : ∀ A a ts H, at_ A a ts H → ts.length ≤ 8
  dict : ∀ A a ts (H : Hp) (d : Addr) (kvs : List (Key × V)) (o : HO), H d = some (.dK kvs) → at_ A a ts H → at_ A a ts (L2.upd H d o)
  cls : ∀ A, A ∈ As → Cls K (cl A)
  isN : ∀ A, A ∈ As → InsC K (cl A) CN
  isO : ∀ A, A ∈ As → PySem.W.kitOne K (.ref (cl A)) (.ref CO) = some (out A)
  isI : ∀ A, A ∈ As → PySem.W.kitOne K (.ref (cl A)) (.ref CI) = some (inl A)
/-- what is known of a node: what it takes, whether it is an outlet, an inlet -/
structure NInf where
  ts : List Nat
  out : Bool
  inl : Bool
def NodeIn {K : PySem.W.Frag} {CN CO CI : Addr} (S : Sorts K CN CO CI) (a : Addr) (i : NInf) (H : Hp) : Prop := ∃ A, A ∈ S.As ∧ S.at_ A a i.ts H ∧ S.out A = i.out ∧ S.inl A = i.inl
theorem NodeIn.keep {K : PySem.W.Frag} {CN CO CI : Addr} {S : Sorts K CN CO CI} {a : Addr} {i : NInf} {H H1 : Hp} (h : NodeIn S a i H) (s : Same H H1) : NodeIn S a i H1 := by
  obtain ⟨A, h1, h2, h3, h4⟩ := h
  exact ⟨A, h1, S.keep A a _ _ _ s h2, h3, h4⟩
theorem NodeIn.dict {K : PySem.W.Frag} {CN CO CI : Addr} {S : Sorts K CN CO CI} {a d : Addr} {i : NInf} {H : Hp} {kvs : List (Key × V)} {o : HO} (h : NodeIn S a i H) (e : H d = some (.dK kvs)) : NodeIn S a i (L2.upd H d o) := by
  obtain ⟨A, h1, h2, h3, h4⟩ := h
  exact ⟨A, h1, S.dict A a _ _ _ _ _ e h2, h3, h4⟩
/-! ### a dict locked for a while -/
theorem unlock {H H' : Hp} {d : Addr} {u : HO} {od : Obj} (e : H d = some u) (s : Same (L2.upd H d (.frz od u)) H') : Same H (L2.upd H' d u) := fun b o h => by
  by_cases z : b = d
  · rw [z] at h ⊢
    rw [e] at h
    rw [← h]
    exact upd_same
  · rw [upd_ne z]
    exact s b o (by rw [upd_ne z]; exact h)
theorem lock_ne {H : Hp} {d b : Addr} {kvs : List (Key × V)} {x o : HO} (e : H d = some (.dK kvs)) (h : H b = some o) (n : ∀ ks, o ≠ .dK ks) : L2.upd H d x b = some o := by
  rw [upd_ne (fun z => by rw [z, e] at h; exact n kvs (Option.some.inj h).symm)]
  exact h
theorem lock_tup {K : PySem.W.Frag} {H : Hp} {d q : Addr} {kvs : List (Key × V)} {x : HO} {xs : List V} (e : H d = some (.dK kvs)) (h : SqT K H q xs) : SqT K (L2.upd H d x) q xs := by
  rcases h with (h | ⟨o, h⟩) | h
  · exact .inl (.inl (lock_ne e h (fun _ z => by cases z)))
  · exact .inl (.inr ⟨o, lock_ne e h (fun _ z => by cases z)⟩)
  · exact .inr h
/-- a dict comprehension over a walk -/
theorem dc_it {J : It} {n : Nat} {G : Hp → Prop} {Y : Nat → Hp → V → Hp → Prop} (w : Walk J n G Y) {g : TG} {tt : TT} {tk tv : TE} {vs : List Nat} {σ : L2.St} {H1 : Hp} {D : Addr} {Qd : Hp → Prop} (Pv : Nat → Hp → Prop)
    (h0 : Pv 0 (L2.upd H1 D (.dK []))) (hG : ∀ i H, i ≤ n → Pv i H → G H)
    (hs : ∀ i x H H', i < n → Pv i H → Y i H x H' → g x (wipe σ vs) H' fun σ2 H2 => wipe σ2 vs = wipe σ vs ∧ tt σ2 H2 fun b H3 =>
      (if b = true then tk σ2 H3 fun y H4 => tv σ2 H4 fun z H5 => ∃ kvs k, y = kV k ∧ H5 D = some (.dK kvs) ∧ kvs.length < sizeLine ∧ Pv (i + 1) (L2.upd H5 D (.dK (putK kvs k z))) else Pv (i + 1) H3)) (hd : ∀ H, Pv n H → Qd H) :
    ∃ W : Nat → Nat → Hp → Prop, (∃ m, W 0 m (L2.upd H1 D (.dK []))) ∧ ∀ i m H, W i m H →
      ((J.stop i H ∧ Qd H) ∨ (J.go i H ∧ ∃ Nx : Hp → Prop, (∀ H', Nx H' → ∃ m', m' < m ∧ W (i + 1) m' H') ∧ ∀ x H', J.yld i H x H' → g x (wipe σ vs) H' fun σ2 H2 => wipe σ2 vs = wipe σ vs ∧ tt σ2 H2 fun b H3 =>
        (if b = true then tk σ2 H3 fun y H4 => tv σ2 H4 fun z H5 => ∃ kvs k, y = kV k ∧ H5 D = some (.dK kvs) ∧ kvs.length < sizeLine ∧ Nx (L2.upd H5 D (.dK (putK kvs k z))) else Nx H3))) := by
  refine ⟨fun i m H => (i ≤ n ∧ m = n - i) ∧ Pv i H, ⟨n, ⟨Nat.zero_le _, by simp⟩, h0⟩, ?_⟩
  rintro i m H ⟨⟨hi, rfl⟩, p⟩
  have q := hG i H hi p
  by_cases hlt : i < n
  · exact .inr ⟨w.goes i H hlt q, Pv (i + 1), fun H' p' => ⟨n - (i + 1), by omega, ⟨hlt, rfl⟩, p'⟩, fun x H' y => hs i x H H' hlt p (w.yields i H x H' hlt q y)⟩
  · obtain rfl : i = n := by omega
    exact .inl ⟨w.stops H q, hd H p⟩
/-! ### lists side by side -/
def Al {α β : Type} (R : α → β → Prop) : List α → List β → Prop
  | [], [] => True
  | a :: as, b :: bs => R a b ∧ Al R as bs
  | _, _ => False
theorem Al.len {α β : Type} {R : α → β → Prop} : ∀ {as : List α} {bs : List β}, Al R as bs → as.length = bs.length
  | [], [], _ => rfl
  | a :: as, b :: bs, h => by rw [List.length_cons, List.length_cons, Al.len h.2]
  | [], b :: bs, h => h.elim
  | a :: as, [], h => h.elim
theorem Al.get {α β : Type} {R : α → β → Prop} : ∀ {as : List α} {bs : List β} {i : Nat} {a : α}, Al R as bs → as[i]? = some a → ∃ b, bs[i]? = some b ∧ R a b
  | [], [], i, a, _, h => by simp at h
  | c :: as, b :: bs, 0, a, h, e => by
    have : c = a := by simpa using e
    exact ⟨b, rfl, this ▸ h.1⟩
  | c :: as, b :: bs, i + 1, a, h, e => by
    obtain ⟨b', e', r⟩ := Al.get h.2 (show as[i]? = some a by simpa using e)
    exact ⟨b', by simpa using e', r⟩
  | [], b :: bs, i, a, h, _ => h.elim
  | c :: as, [], i, a, h, _ => h.elim
theorem Al.snoc {α β : Type} {R : α → β → Prop} {a : α} {b : β} (r : R a b) : ∀ {as : List α} {bs : List β}, Al R as bs → Al R (as ++ [a]) (bs ++ [b])
  | [], [], _ => ⟨r, trivial⟩
  | c :: as, d :: bs, h => ⟨h.1, Al.snoc r h.2⟩
  | [], d :: bs, h => h.elim
  | c :: as, [], h => h.elim
theorem Al.imp {α β : Type} {R R' : α → β → Prop} (f : ∀ a b, R a b → R' a b) : ∀ {as : List α} {bs : List β}, Al R as bs → Al R' as bs
  | [], [], _ => trivial
  | c :: as, d :: bs, h => ⟨f _ _ h.1, Al.imp f h.2⟩
  | [], d :: bs, h => h.elim
  | c :: as, [], h => h.elim
/-! ### what a weave is made of -/
/-- a node by its name -/
structure Nm where
  name : Str
  adr : Addr
  inf : NInf
/-- a wire -/
structure Wr where
  src : Str
  goal : Str
  place : Nat
  delay : Nat
def PairAt (K : PySem.W.Frag) (H : Hp) (p : V) (x : Nm) : Prop := ∃ q, p = .ref q ∧ SqT K H q [.str x.name, .ref x.adr]
def WireAt (K : PySem.W.Frag) (H : Hp) (p : V) (x : Wr) : Prop := ∃ q, p = .ref q ∧ SqT K H q [.str x.src, .str x.goal, .int (x.place : Int), .int (x.delay : Int)]
def PairsAt (K : PySem.W.Frag) (H : Hp) (l : Addr) (nm : List Nm) : Prop := ∃ ps, H l = some (.lst ps) ∧ Al (PairAt K H) ps nm
def WiresAt (K : PySem.W.Frag) (H : Hp) (l : Addr) (ws : List Wr) : Prop := ∃ ps, H l = some (.lst ps) ∧ Al (WireAt K H) ps ws
theorem PairsAt.keep {K : PySem.W.Frag} {H H1 : Hp} {l : Addr} {nm : List Nm} (h : PairsAt K H l nm) (s : Same H H1) : PairsAt K H1 l nm := by
  obtain ⟨ps, h1, h2⟩ := h
  exact ⟨ps, s _ _ h1, h2.imp fun p x ⟨q, e, h⟩ => ⟨q, e, Same.tup s h⟩⟩
theorem WiresAt.keep {K : PySem.W.Frag} {H H1 : Hp} {l : Addr} {nm : List Wr} (h : WiresAt K H l nm) (s : Same H H1) : WiresAt K H1 l nm := by
  obtain ⟨ps, h1, h2⟩ := h
  exact ⟨ps, s _ _ h1, h2.imp fun p x ⟨q, e, h⟩ => ⟨q, e, Same.tup s h⟩⟩
def Nodes {K : PySem.W.Frag} {CN CO CI : Addr} (S : Sorts K CN CO CI) (nm : List Nm) (H : Hp) : Prop := ∀ x ∈ nm, NodeIn S x.adr x.inf H
theorem Nodes.keep {K : PySem.W.Frag} {CN CO CI : Addr} {S : Sorts K CN CO CI} {nm : List Nm} {H H1 : Hp} (h : Nodes S nm H) (s : Same H H1) : Nodes S nm H1 := fun x hx => (h x hx).keep s
structure NmsOk (nm : List Nm) : Prop where
  few : nm.length ≤ 24
  ok : ∀ x ∈ nm, NmOk x.name
  nd : (nm.map Nm.name).Nodup
/-- the dict of the nodes by their names -/
def dNamed (nm : List Nm) : List (Key × V) := nm.map fun x => (Sum.inr x.name, .ref x.adr)
theorem valV_named : ∀ {nm : List Nm}, (nm.map Nm.name).Nodup → ∀ {x : Nm}, x ∈ nm → valV (dNamed nm) (Sum.inr x.name) = some (.ref x.adr)
  | [], _, x, h => by cases h
  | y :: r, nd, x, h => by
    unfold valV dNamed
    rw [List.map_cons, List.find?_cons]
    by_cases e : y.name = x.name
    · rw [decide_eq_true (congrArg Sum.inr e)]
      rcases List.mem_cons.mp h with rfl | h
      · rfl
      · exact absurd (show y.name ∈ r.map Nm.name from e ▸ List.mem_map.mpr ⟨x, h, rfl⟩) (List.nodup_cons.mp nd).1
    · rw [decide_eq_false (fun z => e (Sum.inr.inj z))]
      rcases List.mem_cons.mp h with rfl | h
      · exact absurd rfl e
      · exact valV_named (List.nodup_cons.mp nd).2 h
theorem valV_none {kvs : List (Key × V)} {k : Key} (h : ∀ p ∈ kvs, p.1 ≠ k) : valV kvs k = none := by
  unfold valV
  rw [List.find?_eq_none.mpr fun p hp => by simpa using h p hp]
  rfl
theorem putK_new {kvs : List (Key × V)} {k : Key} {v : V} (h : valV kvs k = none) : putK kvs k v = kvs ++ [(k, v)] := by
  unfold putK
  rw [if_neg]
  intro z
  obtain ⟨p, hp, e⟩ := List.any_eq_true.mp z
  unfold valV at h
  cases e2 : kvs.find? (fun kv => decide (kv.1 = k)) with
  | none =>
    have := List.find?_eq_none.mp e2 p hp
    exact this e
  | some q =>
    rw [e2] at h
    cases h
def spNamed {K : PySem.W.Frag} {CN CO CI : Addr} (S : Sorts K CN CO CI) : Sp := fun vs H Q _ => ∃ (l : Addr) (nm : List Nm), vs = [.ref l] ∧ PairsAt K H l nm ∧ NmsOk nm ∧ Nodes S nm H ∧ ∀ (d : Addr) (H' : Hp), Same H H' → H d = none → H' d = some (.dK (dNamed nm)) → Q (.ref d) H'
/-- a thing that is one of a dict's names -/
def spOneOf : Sp := fun vs H Q _ => ∃ (x : Str) (d : Addr) (kvs : List (Key × V)), vs = [.str x, .ref d] ∧ Rd H d (.dK kvs) ∧ Q (.bl (valV kvs (Sum.inr x)).isSome) H
section
variable {P : Program} {w : World} {K : PySem.W.Frag} {mg : Str → Option Value} {base : Heap} {f f1 f2 f3 f4 f5 f6 f7 f8 f9 C CN CO CI CW : Addr} {fd fd1 fd2 fd3 fd4 fd5 fd6 fd7 fd8 fd9 : FuncData}
abbrev nIsOneOf : List Str := ["thing", "names"]
theorem scIsOneOf : FnScope nIsOneOf ["thing", "names"] (defScope sIsOneOf) := ⟨rfl, rfl, rfl, by decide +kernel, rfl, by decide +kernel, by decide +kernel⟩
theorem ok_oneOf (F : FnP K "is_one_of" sIsOneOf f fd) (gIs : mg "isinstance" = none) (gStr : mg "str" = none) : FnOk P w K mg base CX0 1 f fd ["thing", "names"] spOneOf := by
  refine F.ok scIsOneOf (fun vs H Q E h => ?_) (fun cdv A outer s H vs Q E hr h => ?_)
  · obtain ⟨x, d, kvs, rfl, _⟩ := h
    rfl
  · obtain ⟨x, d, kvs, rfl, hd, kk⟩ := h
    have hu := hu_of hr
    refine ⟨_, PSs.nox (pss_one (ps_ret (pe_and (pe_callB call_isi (by rfl) gIs boot_isinstance (pa_cons (pv 0) (pa_cons (pe_bltn (v := .ty "str") rfl gStr PyProof.Rows.boot_str rfl) pa_nil))) (pe_one (pe_cmp (pc_din hu (pv 0) (pv 1))))))), ?_⟩
    refine ⟨_, rfl, _, _, _, _, true, rfl, ClsV.ty _, TyX.base (TyOf.str x), kit_ty (by decide +kernel), _, rfl, iteT ?_⟩
    exact ⟨_, rfl, _, rfl, d, _, rfl, .inl ⟨kvs, Sum.inr x, hd, rfl, rfl⟩, kk⟩
abbrev nNodesByName : List Str := ["nodes", "named", "name", "node"]
theorem scNodesByName : FnScope nNodesByName ["nodes"] (defScope sNodesByName) := ⟨rfl, rfl, rfl, by decide +kernel, rfl, by decide +kernel, by decide +kernel⟩
theorem ok_named (S : Sorts K CN CO CI) (F : FnP K "nodes_by_name" sNodesByName f fd) (GNm : FnOk P w K mg base CX0 1 f1 fd1 ["thing"] spName) (gNm : mg "is_name" = some (.ref f1)) (kNm : PySem.W.keepIn K (.ref f1) = true) (bNm : Binds K fd1 ["thing"] [])
    (gN : mg "Node" = some (.ref CN)) (gIs : mg "isinstance" = none) : FnOk P w K mg base CX0 2 f fd ["nodes"] (spNamed S) := by
  refine F.ok scNodesByName (fun vs H Q E h => ?_) (fun cdv A outer s H vs Q E hr h => ?_)
  · obtain ⟨l, nm, rfl, _⟩ := h
    rfl
  · obtain ⟨l, nm, rfl, ⟨ps, hl, al⟩, nok, nodes, kk⟩ := h
    have hu := hu_of hr
    have nd := scNodesByName.nd
    refine ⟨_, PSs.nox (pss_cons (ps_set (i := 1) nd rfl (Or.inl rfl) pe_dnewK)
      (pss_cons (ps_for PassesOwn.never rfl (pi_list (pv 0)) (pg_tup rfl (pgs_cons (pg_name (i := 2) nd rfl (Or.inl rfl)) (pgs_cons (pg_name (i := 3) nd rfl (Or.inl rfl)) pgs_nil)))
      (pss_cons (ps_if (pt_not (pt_val (pe_call GNm hr rfl gNm kNm bNm .nil pass0 (pa_cons (pv 2) pa_nil)))) pss_never pss_nil)
      (pss_cons (ps_if (pt_cmp (pc_din hu (pv 2) (pv 1))) pss_never pss_nil)
      (pss_cons (ps_if (pt_not (pt_val (pe_callB call_isi (by rfl) gIs boot_isinstance (pa_cons (pv 3) (pa_cons (pe_glob (v := .ref CN) rfl gN rfl) pa_nil))))) pss_never pss_nil)
      (pss_one (ps_dput hu (pv 1) (pv 2) (pv 3) rfl))))))
      (pss_one (ps_ret (pv 1))))), ?_⟩
    refine fun d hd => ?_
    refine ⟨_, rfl, l, rfl, ⟨_, SqL.of (Same.new (Same.refl _) hd _ _ hl)⟩, ?_⟩
    refine for_list (xs := ps) (fun j σ G => ∃ w2 w3 : Option V, σ = [some (.ref l), some (.ref d), w2, w3] ∧ G d = some (.dK (dNamed (nm.take j))) ∧ Same H G) ⟨_, _, rfl, upd_same, Same.past (Same.refl _) hd⟩ (fun j σ G _ e => by obtain ⟨_, _, _, _, sm⟩ := e; exact SqL.of (sm _ _ hl)) ?_ ?_
    · rintro j p σ G ep ⟨w2, w3, rfl, hG, sG⟩
      obtain ⟨x, ex, q, rfl, hq⟩ := al.get ep
      have xm : x ∈ nm := List.mem_of_getElem? ex
      refine ⟨q, _, rfl, Same.tup sG hq, rfl, _, _, rfl, _, _, rfl, rfl, ?_⟩
      refine ⟨_, rfl, x.name, rfl, nok.ok x xm, fun G1 s1 => ⟨_, rfl, iteF ?_⟩⟩
      have hG1 := s1 _ _ hG
      have no : valV (dNamed (nm.take j)) (Sum.inr x.name) = none := valV_none fun p hp z => by
        obtain ⟨y, hy, rfl⟩ := List.mem_map.mp hp
        have hy' : y.name = x.name := Sum.inr.inj z
        obtain ⟨k, ek⟩ := List.getElem?_of_mem hy
        rw [List.getElem?_take] at ek
        split at ek
        · rename_i kj
          have e1 : (nm.map Nm.name)[k]? = some x.name := by rw [List.getElem?_map, ek, ← hy']; rfl
          have e2 : (nm.map Nm.name)[j]? = some x.name := by rw [List.getElem?_map, ex]; rfl
          obtain ⟨h1, g1⟩ := List.getElem?_eq_some_iff.mp e1
          obtain ⟨h2, g2⟩ := List.getElem?_eq_some_iff.mp e2
          exact List.pairwise_iff_getElem.mp nok.nd k j h1 h2 kj (g1.trans g2.symm)
        · cases ek
      refine ⟨_, rfl, _, rfl, d, _, rfl, DGet.k (k := Sum.inr x.name) hG1, ?_⟩
      rw [no]
      refine ⟨_, rfl, iteF ?_⟩
      obtain ⟨B, hB, hat, _, _⟩ := (nodes x xm).keep (sG.trans s1)
      obtain ⟨dx, fs, hin, _⟩ := S.ins B _ _ _ hat
      refine ⟨_, rfl, _, _, _, _, true, rfl, ClsV.own _, (S.isN B hB).ty (S.cls B hB) hin, (S.isN B hB).kit, _, rfl, iteF ?_⟩
      refine ⟨_, rfl, _, rfl, _, rfl, d, _, rfl, DPut.k (k := Sum.inr x.name) hG1 ?_, ?_⟩
      · unfold dNamed
        rw [List.length_map, List.length_take]
        have := nok.few
        exact Nat.lt_of_le_of_lt (show _ ≤ 24 by omega) (by decide)
      · refine ⟨_, _, rfl, ?_, Same.past (sG.trans s1) hd⟩
        rw [putK_new no, List.take_succ, ex]
        unfold dNamed
        rw [List.map_append]
        exact upd_same
    · rintro σ G ⟨w2, w3, rfl, hG, sG⟩
      rw [al.len, List.take_length] at hG
      exact ⟨_, rfl, kk d G sG hd hG⟩
end
end Sw
namespace Sw
open PySem PySem.Spec PyProof.Rows L2
/-! ### which wire leads where -/
def numAt (ws : List Wr) (g : Str) (p : Nat) : Option Nat := ws.findIdx? fun w => decide (w.goal = g ∧ w.place = p)
def numV : Option Nat → V
  | some i => .int (i : Int)
  | none => .non
def leadL (ws : List Wr) (g : Str) (n : Nat) : List V := (List.range n).map fun p => numV (numAt ws g p)
theorem numAt_snoc {ws : List Wr} {w : Wr} {g : Str} {p : Nat} : numAt (ws ++ [w]) g p = (numAt ws g p).or (if w.goal = g ∧ w.place = p then some ws.length else none) := by
  unfold numAt
  rw [List.findIdx?_append]
  congr 1
  rw [List.findIdx?_cons]
  by_cases h : w.goal = g ∧ w.place = p
  · rw [decide_eq_true h, if_pos h]
    simp
  · rw [decide_eq_false h, if_neg h]
    simp
theorem numAt_none {ws : List Wr} {g : Str} {p : Nat} (h : ∀ w ∈ ws, ¬ (w.goal = g ∧ w.place = p)) : numAt ws g p = none := by
  unfold numAt
  rw [List.findIdx?_eq_none_iff]
  intro w hw
  exact decide_eq_false (h w hw)
theorem leadL_len (ws : List Wr) (g : Str) (n : Nat) : (leadL ws g n).length = n := by
  unfold leadL
  simp
theorem leadL_get {ws : List Wr} {g : Str} {n p : Nat} (h : p < n) : (leadL ws g n)[p]? = some (numV (numAt ws g p)) := by
  unfold leadL
  rw [List.getElem?_map, List.getElem?_range h]
  rfl
theorem leadL_nil (g : Str) (n : Nat) : leadL [] g n = List.replicate n .non := by
  unfold leadL
  rw [List.eq_replicate_iff]
  refine ⟨by simp, fun b hb => ?_⟩
  obtain ⟨p, _, rfl⟩ := List.mem_map.mp hb
  rfl
theorem leadL_other {ws : List Wr} {w : Wr} {g : Str} {n : Nat} (h : w.goal ≠ g) : leadL (ws ++ [w]) g n = leadL ws g n := by
  unfold leadL
  apply List.map_congr_left
  intro p _
  rw [numAt_snoc, if_neg (fun z => h z.1), Option.or_none]
theorem leadL_set {ws : List Wr} {w : Wr} {n : Nat} (h : w.place < n) (e : numAt ws w.goal w.place = none) : leadL (ws ++ [w]) w.goal n = (leadL ws w.goal n).set w.place (.int (ws.length : Int)) := by
  apply List.ext_getElem?
  intro p
  by_cases hp : p < n
  · rw [leadL_get hp, numAt_snoc]
    by_cases z : w.place = p
    · subst z
      rw [if_pos ⟨rfl, rfl⟩, e, List.getElem?_set_self (by rw [leadL_len]; exact h)]
      rfl
    · rw [if_neg (fun q => z q.2), Option.or_none, List.getElem?_set_ne z, leadL_get hp]
  · rw [List.getElem?_eq_none (by rw [leadL_len]; omega), List.getElem?_eq_none (by rw [List.length_set, leadL_len]; omega)]
/-- reached from an inlet -/
inductive Reach (nm : List Nm) (ws : List Wr) : Str → Prop
  | inl {x : Nm} (h : x ∈ nm) (i : x.inf.inl = true) : Reach nm ws x.name
  | step {w : Wr} (h : w ∈ ws) (r : Reach nm ws w.src) : Reach nm ws w.goal
/-- what a weave can be made of -/
structure WvOk (nm : List Nm) (ws : List Wr) : Prop where
  nms : NmsOk nm
  few : ws.length ≤ 48
  src : ∀ w ∈ ws, ∃ x ∈ nm, x.name = w.src ∧ x.inf.out = false
  goal : ∀ w ∈ ws, ∃ x ∈ nm, x.name = w.goal ∧ w.place < x.inf.ts.length
  del : ∀ w ∈ ws, w.delay ≤ 9999
  one : ∀ (i j : Nat) (w w' : Wr), ws[i]? = some w → ws[j]? = some w' → w.goal = w'.goal → w.place = w'.place → i = j
  all : ∀ x ∈ nm, ∀ p, p < x.inf.ts.length → ∃ w ∈ ws, w.goal = x.name ∧ w.place = p
  reach : ∀ x ∈ nm, Reach nm ws x.name
theorem numAt_take {nm : List Nm} {ws : List Wr} (ok : WvOk nm ws) {j : Nat} {w : Wr} (e : ws[j]? = some w) : numAt (ws.take j) w.goal w.place = none := by
  refine numAt_none fun w' hw' z => ?_
  obtain ⟨k, ek⟩ := List.getElem?_of_mem hw'
  rw [List.getElem?_take] at ek
  split at ek
  · rename_i kj
    have := ok.one k j w' w ek e z.1 z.2
    omega
  · cases ek
def spTk {K : PySem.W.Frag} {CN CO CI : Addr} (S : Sorts K CN CO CI) (A : S.α) : Sp := fun vs H Q _ => ∃ (a : Addr) (ts : List Nat), vs = [.ref a] ∧ S.at_ A a ts H ∧ ∀ t H', Same H H' → SqT K H' t (ts.map fun (n : Nat) => V.int (n : Int)) → Q (.ref t) H'
def spCheck {K : PySem.W.Frag} {CN CO CI : Addr} (S : Sorts K CN CO CI) : Sp := fun vs H Q _ => ∃ (n : Int) (p : V) (d : Addr) (nm : List Nm) (w : Wr), vs = [.int n, p, .ref d] ∧ WireAt K H p w ∧ H d = some (.dK (dNamed nm)) ∧ NmsOk nm ∧ Nodes S nm H ∧ (∃ x ∈ nm, x.name = w.src ∧ x.inf.out = false) ∧ (∃ x ∈ nm, x.name = w.goal ∧ w.place < x.inf.ts.length) ∧ w.delay ≤ 9999 ∧ ∀ H', Same H H' → Q .non H'
section
variable {P : Program} {w : World} {K : PySem.W.Frag} {mg : Str → Option Value} {base : Heap} {f f1 f2 f3 f4 f5 f6 f7 f8 f9 C CN CO CI CW : Addr} {fd fd1 fd2 fd3 fd4 fd5 fd6 fd7 fd8 fd9 : FuncData}
abbrev nCheckWire : List Str := ["number", "wire", "named", "source", "goal", "place", "delay"]
theorem scCheckWire : FnScope nCheckWire ["number", "wire", "named"] (defScope sCheckWire) := ⟨rfl, rfl, rfl, by decide +kernel, rfl, by decide +kernel, by decide +kernel⟩
theorem ok_check (S : Sorts K CN CO CI) (F : FnP K "check_wire" sCheckWire f fd) (GOn : FnOk P w K mg base CX0 1 f1 fd1 ["thing", "names"] spOneOf) (gOn : mg "is_one_of" = some (.ref f1)) (kOn : PySem.W.keepIn K (.ref f1) = true) (bOn : Binds K fd1 ["thing", "names"] [])
    (GWi : FnOk P w K mg base CX0 2 f2 fd2 ["thing", "least", "most"] (spWithin K)) (gWi : mg "is_whole_within" = some (.ref f2)) (kWi : PySem.W.keepIn K (.ref f2) = true) (bWi : Binds K fd2 ["thing", "least", "most"] [])
    (hT : ∀ A, A ∈ S.As → MethC P w K mg base 1 "takes" ["self"] (spTk S A) (S.cl A)) (gO : mg "Outlet" = some (.ref CO)) (gD : ∃ t, mg "MOST_DELAY" = some (.int 9999 t)) (gIs : mg "isinstance" = none) (gLen : mg "len" = none) : FnOk P w K mg base CX0 3 f fd ["number", "wire", "named"] (spCheck S) := by
  obtain ⟨tD, gD⟩ := gD
  refine F.ok scCheckWire (fun vs H Q E h => ?_) (fun cdv A outer s H vs Q E hr h => ?_)
  · obtain ⟨n, p, d, nm, w, rfl, _⟩ := h
    rfl
  · obtain ⟨n, p, d, nm, w, rfl, ⟨q, rfl, hq⟩, hd, nok, nodes, ⟨x, hx, ex, xo⟩, ⟨y, hy, ey, yp⟩, dl, kk⟩ := h
    have hu := hu_of hr
    have hr2 : Room 2 _ := hr
    have hr1 : Room 1 _ := hr.mono (by decide)
    have nd := scCheckWire.nd
    refine ⟨_, PSs.nox (pss_cons (ps_asg (pv 1) (pg_tup rfl (pgs_cons (pg_name (i := 3) nd rfl (Or.inl rfl)) (pgs_cons (pg_name (i := 4) nd rfl (Or.inl rfl)) (pgs_cons (pg_name (i := 5) nd rfl (Or.inl rfl)) (pgs_cons (pg_name (i := 6) nd rfl (Or.inl rfl)) pgs_nil))))))
      (pss_cons (ps_if (pt_not (pt_val (pe_call GOn hr1 rfl gOn kOn bOn .nil pass0 (pa_cons (pv 3) (pa_cons (pv 2) pa_nil))))) pss_never pss_nil)
      (pss_cons (ps_if (pt_not (pt_val (pe_call GOn hr1 rfl gOn kOn bOn .nil pass0 (pa_cons (pv 4) (pa_cons (pv 2) pa_nil))))) pss_never pss_nil)
      (pss_cons (ps_if (PW.pt (pw_or (pt_val (pe_callB call_isi (by rfl) gIs boot_isinstance (pa_cons (pe_dget hu (pv 2) (pv 3) (fun _ _ => rfl)) (pa_cons (pe_glob (v := .ref CO) rfl gO rfl) pa_nil)))) (pw_or1 (pt_not (pt_val (pe_call GWi hr2 rfl gWi kWi bWi .nil pass0 (pa_cons (pv 5) (pa_cons pe_int (pa_cons (pe_op op_sub (pe_callB call_len_seq (by rfl) gLen PySem.boot_len (pa_cons (pe_methOf0 (As := S.As) (cl := S.cl) (sp := spTk S) (pe_dget hu (pv 2) (pv 4) (fun _ _ => rfl)) hT hr1) pa_nil)) pe_int) pa_nil))))))))) pss_never pss_nil)
      (pss_one (ps_if (pt_not (pt_val (pe_call GWi hr2 rfl gWi kWi bWi .nil pass0 (pa_cons (pv 6) (pa_cons pe_int (pa_cons (pe_glob (v := .int 9999) rfl gD ⟨_, rfl⟩) pa_nil)))))) pss_never pss_nil)))))), ?_⟩
    refine ⟨_, rfl, q, _, rfl, hq, rfl, _, _, rfl, _, _, rfl, _, _, rfl, _, _, rfl, rfl, ?_⟩
    have vs1 : valV (dNamed nm) (Sum.inr w.src) = some (.ref x.adr) := ex ▸ valV_named nok.nd hx
    have vs2 : valV (dNamed nm) (Sum.inr w.goal) = some (.ref y.adr) := ey ▸ valV_named nok.nd hy
    refine ⟨_, rfl, _, rfl, w.src, d, _, rfl, .inl hd, ?_⟩
    rw [vs1]
    refine ⟨_, rfl, iteF ?_⟩
    refine ⟨_, rfl, _, rfl, w.goal, d, _, rfl, .inl hd, ?_⟩
    rw [vs2]
    refine ⟨_, rfl, iteF ?_⟩
    obtain ⟨B, hB, hat, hout, _⟩ := nodes x hx
    obtain ⟨dx, fs, hin, _⟩ := S.ins B _ _ _ hat
    obtain ⟨B2, hB2, hat2, _, _⟩ := nodes y hy
    obtain ⟨dx2, fs2, hin2, no2⟩ := S.ins B2 _ _ _ hat2
    have isO := S.isO B hB
    rw [hout, xo] at isO
    refine ⟨_, rfl, _, rfl, d, _, rfl, ?_, _, _, _, _, false, rfl, ClsV.own _, (S.isN B hB).ty (S.cls B hB) hin, isO, _, rfl, iteF ?_⟩
    · rw [← vs1]
      exact DGet.k (k := Sum.inr w.src) hd
    refine ⟨_, rfl, _, rfl, _, rfl, d, _, rfl, (by rw [← vs2]; exact DGet.k (k := Sum.inr w.goal) hd), B2, y.adr, dx2, fs2, hB2, rfl, hin2, no2, y.adr, _, rfl, hat2, fun t H1 s1 ht => ?_⟩
    refine ⟨t, _, rfl, .inr ht, _, _, rfl, rfl, _, 0, _, rfl, .inl ⟨_, rfl, ?_⟩⟩
    rw [List.length_map, decide_eq_true (by omega)]
    refine ⟨_, rfl, iteF ?_⟩
    refine ⟨_, rfl, _, 0, 9999, rfl, .inl ⟨_, rfl, ?_⟩⟩
    rw [decide_eq_true (by omega)]
    exact ⟨_, rfl, iteF (kk H1 s1)⟩
end
end Sw
namespace Sw
open PySem PySem.Spec PyProof.Rows L2
theorem Al.map {α β γ : Type} {R : α → β → Prop} {f : β → γ} : ∀ {as : List α} {bs : List β}, Al R as bs → True
  | _, _, _ => trivial
theorem Al.take {α β : Type} {R : α → β → Prop} : ∀ {as : List α} {bs : List β}, Al R as bs → ∀ n, Al R (as.take n) (bs.take n)
  | [], [], _, n => by simp [Al]
  | a :: as, b :: bs, h, 0 => trivial
  | a :: as, b :: bs, h, n + 1 => ⟨h.1, Al.take h.2 n⟩
  | [], b :: bs, h, _ => h.elim
  | a :: as, [], h, _ => h.elim
theorem Al.get' {α β : Type} {R : α → β → Prop} : ∀ {as : List α} {bs : List β} {i : Nat} {b : β}, Al R as bs → bs[i]? = some b → ∃ a, as[i]? = some a ∧ R a b
  | [], [], i, a, _, h => by simp at h
  | c :: as, b :: bs, 0, b', h, e => by
    have : b = b' := by simpa using e
    exact ⟨c, rfl, this ▸ h.1⟩
  | c :: as, b :: bs, i + 1, b', h, e => by
    obtain ⟨a', e', r⟩ := Al.get' h.2 (show bs[i]? = some b' by simpa using e)
    exact ⟨a', by simpa using e', r⟩
  | [], b :: bs, i, a, h, _ => h.elim
  | c :: as, [], i, a, h, _ => h.elim
theorem Al.of {α β : Type} {R : α → β → Prop} : ∀ {as : List α} {bs : List β}, as.length = bs.length → (∀ (i : Nat) (a : α) (b : β), as[i]? = some a → bs[i]? = some b → R a b) → Al R as bs
  | [], [], _, _ => trivial
  | a :: as, b :: bs, l, h => ⟨h 0 a b rfl rfl, Al.of (by simpa using l) fun i x y ex ey => h (i + 1) x y (by simpa using ex) (by simpa using ey)⟩
  | [], b :: bs, l, _ => by cases l
  | a :: as, [], l, _ => by cases l
theorem flat_one {α : Type} (y : α) : ∀ m : Nat, (List.replicate m [y]).flatten = List.replicate m y
  | 0 => rfl
  | m + 1 => by
    rw [List.replicate_succ, List.flatten_cons, flat_one y m]
    rfl
/-- a dict of lists by the nodes' names -/
def dLead (nm : List Nm) (las : List Addr) : List (Key × V) := List.zipWith (fun x la => (Sum.inr x.name, V.ref la)) nm las
theorem dLead_snoc {nm : List Nm} {las : List Addr} {x : Nm} {la : Addr} (h : nm.length = las.length) : dLead (nm ++ [x]) (las ++ [la]) = dLead nm las ++ [(Sum.inr x.name, .ref la)] := by
  unfold dLead
  rw [List.zipWith_append h]
  rfl
theorem valV_lead : ∀ {nm : List Nm} {las : List Addr}, (nm.map Nm.name).Nodup → ∀ {i : Nat} {x : Nm} {la : Addr}, nm[i]? = some x → las[i]? = some la → valV (dLead nm las) (Sum.inr x.name) = some (.ref la)
  | [], _, _, i, x, la, h, _ => by simp at h
  | y :: r, [], _, i, x, la, _, h => by simp at h
  | y :: r, l :: ls, nd, 0, x, la, h, h' => by
    have e1 : y = x := by simpa using h
    have e2 : l = la := by simpa using h'
    subst e1 e2
    unfold valV dLead
    simp
  | y :: r, l :: ls, nd, i + 1, x, la, h, h' => by
    have ih := valV_lead (List.nodup_cons.mp nd).2 (show r[i]? = some x by simpa using h) (show ls[i]? = some la by simpa using h')
    have ne : y.name ≠ x.name := fun z => (List.nodup_cons.mp nd).1 (z ▸ List.mem_map.mpr ⟨x, List.mem_of_getElem? (show r[i]? = some x by simpa using h), rfl⟩)
    unfold valV dLead at ih ⊢
    rw [List.zipWith_cons_cons, List.find?_cons, decide_eq_false (fun z => ne (Sum.inr.inj z))]
    exact ih
theorem dLead_len {nm : List Nm} {las : List Addr} (h : las.length = nm.length) : (dLead nm las).length = nm.length := by
  unfold dLead
  rw [List.length_zipWith, h]
  omega
theorem dLead_no {nm : List Nm} {las : List Addr} {s : Str} (h : ∀ x ∈ nm, x.name ≠ s) : valV (dLead nm las) (Sum.inr s) = none := valV_none fun p hp z => by
  unfold dLead at hp
  obtain ⟨i, ei⟩ := List.getElem?_of_mem hp
  rw [List.getElem?_zipWith] at ei
  cases ea : nm[i]? with
  | none => rw [ea] at ei; cases ei
  | some x =>
    cases eb : las[i]? with
    | none => rw [ea, eb] at ei; cases ei
    | some l =>
      rw [ea, eb] at ei
      cases ei
      exact h x (List.mem_of_getElem? ea) (Sum.inr.inj z)
theorem dNamed_get {nm : List Nm} {j : Nat} {k : Key} {v : V} (h : (dNamed nm)[j]? = some (k, v)) : ∃ x, nm[j]? = some x ∧ k = Sum.inr x.name ∧ v = .ref x.adr := by
  unfold dNamed at h
  rw [List.getElem?_map] at h
  obtain ⟨x, ex, e⟩ := Option.map_eq_some_iff.mp h
  cases e
  exact ⟨x, ex, rfl, rfl⟩
theorem name_ahead {nm : List Nm} (nd : (nm.map Nm.name).Nodup) {j : Nat} {x : Nm} (ex : nm[j]? = some x) : ∀ y ∈ nm.take j, y.name ≠ x.name := fun y hy z => by
  obtain ⟨k, ek⟩ := List.getElem?_of_mem hy
  rw [List.getElem?_take] at ek
  split at ek
  · rename_i kj
    have e1 : (nm.map Nm.name)[k]? = some x.name := by rw [List.getElem?_map, ek, ← z]; rfl
    have e2 : (nm.map Nm.name)[j]? = some x.name := by rw [List.getElem?_map, ex]; rfl
    obtain ⟨h1, g1⟩ := List.getElem?_eq_some_iff.mp e1
    obtain ⟨h2, g2⟩ := List.getElem?_eq_some_iff.mp e2
    exact List.pairwise_iff_getElem.mp nd k j h1 h2 kj (g1.trans g2.symm)
  · cases ek
/-- lists at places of their own, one for each node -/
structure Lists (H0 H : Hp) (d : Addr) (nm : List Nm) (las : List Addr) (L : Nm → List V) : Prop where
  hd : H d = some (.dK (dLead nm las))
  len : las.length = nm.length
  nd : las.Nodup
  new : ∀ la ∈ las, H0 la = none ∧ la ≠ d
  at_ : ∀ (i : Nat) (x : Nm) (la : Addr), nm[i]? = some x → las[i]? = some la → H la = some (.lst (L x))
theorem Lists.keep {H0 H H1 : Hp} {d : Addr} {nm : List Nm} {las : List Addr} {L : Nm → List V} (h : Lists H0 H d nm las L) (s : Same H H1) : Lists H0 H1 d nm las L := ⟨s _ _ h.hd, h.len, h.nd, h.new, fun i x la e1 e2 => s _ _ (h.at_ i x la e1 e2)⟩
def spLead {K : PySem.W.Frag} {CN CO CI : Addr} (S : Sorts K CN CO CI) : Sp := fun vs H Q _ => ∃ (wl d : Addr) (nm : List Nm) (ws : List Wr), vs = [.ref wl, .ref d] ∧ WiresAt K H wl ws ∧ H d = some (.dK (dNamed nm)) ∧ WvOk nm ws ∧ Nodes S nm H ∧ ∀ (dl : Addr) (las : List Addr) (H' : Hp), Same H H' → H dl = none → Lists H H' dl nm las (fun x => leadL ws x.name x.inf.ts.length) → Q (.ref dl) H'
section
variable {P : Program} {w : World} {K : PySem.W.Frag} {mg : Str → Option Value} {base : Heap} {f f1 f2 f3 f4 f5 f6 f7 f8 f9 C CN CO CI CW : Addr} {fd fd1 fd2 fd3 fd4 fd5 fd6 fd7 fd8 fd9 : FuncData}
abbrev nWiresByGoal : List Str := ["wires", "named", "leading", "number", "wire", "source", "goal", "place", "delay", "name"]
theorem scWiresByGoal : FnScope nWiresByGoal ["wires", "named"] (defScope sWiresByGoal) := ⟨rfl, rfl, rfl, by decide +kernel, rfl, by decide +kernel, by decide +kernel⟩
theorem ok_lead (S : Sorts K CN CO CI) (F : FnP K "wires_by_goal" sWiresByGoal f fd) (GCk : FnOk P w K mg base CX0 3 f1 fd1 ["number", "wire", "named"] (spCheck S)) (gCk : mg "check_wire" = some (.ref f1)) (kCk : PySem.W.keepIn K (.ref f1) = true) (bCk : Binds K fd1 ["number", "wire", "named"] [])
    (hT : ∀ A, A ∈ S.As → MethC P w K mg base 1 "takes" ["self"] (spTk S A) (S.cl A)) (gEnum : mg "enumerate" = none) (gLen : mg "len" = none) : FnOk P w K mg base CX0 4 f fd ["wires", "named"] (spLead S) := by
  refine F.ok scWiresByGoal (fun vs H Q E h => ?_) (fun cdv A outer s H vs Q E hr h => ?_)
  · obtain ⟨wl, d, nm, ws, rfl, _⟩ := h
    rfl
  · obtain ⟨wl, d, nm, ws, rfl, ⟨ps, hwl, al⟩, hd, ok, nodes, kk⟩ := h
    have hu := hu_of hr
    have hr1 : Room 1 _ := hr.mono (by decide)
    have nd := scWiresByGoal.nd
    have few := ok.nms.few
    refine ⟨_, PSs.nox (pss_cons (ps_lock (ps_setDc (i := 2) (own := [("name", 9)]) (g := (gName 9)) (tt := tYes) rfl nd rfl rfl (swd_true rfl rfl rfl rfl) (pi_keys (pv 1)) (blkOk_by (N := nWiresByGoal) (sc := defScope sWiresByGoal) (by decide +kernel))
        (fun _ _ _ _ _ => (pg_name (i := 9) nd rfl (Or.inl rfl))) (fun _ _ _ _ _ => pts_nil) (fun _ _ _ _ _ => (pv 9)) (fun _ _ _ _ _ => (pe_op op_rep (pe_lst (pa_cons pe_non pa_nil)) (pe_callB (call_len_seqK (K := K) rfl) (by rfl) gLen PySem.boot_len (pa_cons (pe_methOf0 (As := S.As) (cl := S.cl) (sp := spTk S) (pe_dget hu (pv 1) (pv 9) (fun _ _ => rfl)) hT hr1) pa_nil))))))
      (pss_cons (ps_for PassesOwn.never rfl (pi_enum rfl gEnum (pa_cons (pv 0) pa_nil)) (pg_tup rfl (pgs_cons (pg_name (i := 3) nd rfl (Or.inl rfl)) (pgs_cons (pg_name (i := 4) nd rfl (Or.inl rfl)) pgs_nil)))
      (pss_cons (ps_expr (pe_call GCk hr rfl gCk kCk bCk .nil pass0 (pa_cons (pv 3) (pa_cons (pv 4) (pa_cons (pv 1) pa_nil)))))
      (pss_cons (ps_asg (pv 4) (pg_tup rfl (pgs_cons (pg_name (i := 5) nd rfl (Or.inl rfl)) (pgs_cons (pg_name (i := 6) nd rfl (Or.inl rfl)) (pgs_cons (pg_name (i := 7) nd rfl (Or.inl rfl)) (pgs_cons (pg_name (i := 8) nd rfl (Or.inl rfl)) pgs_nil))))))
      (pss_cons (ps_if (pt_cmpR op_notN (pe_ix ix_list (pe_dget hu (pv 2) (pv 6) (fun _ _ => rfl)) (pv 7) (fun _ _ => rfl)) pe_non (nomark _)) pss_never pss_nil)
      (pss_one (ps_asg (pv 3) (pg_sub (pe_dget hu (pv 2) (pv 6) (fun _ _ => rfl)) (pv 7) set_list (by intro _; rfl))))))))
      (pss_one (ps_ret (pv 2))))), ?_⟩
    refine ⟨d, _, hd, trivial, fun od => ?_⟩
    have nodesL : ∀ x ∈ nm, NodeIn S x.adr x.inf (upd H d (.frz od (.dK (dNamed nm)))) := fun x hx => (nodes x hx).dict hd
    have hL : (upd H d (.frz od (.dK (dNamed nm)))) d = some (.frz od (.dK (dNamed nm))) := upd_same
    have freeL : ∀ {a : Addr}, (upd H d (.frz od (.dK (dNamed nm)))) a = none → H a = none := fun {a} e => by
      by_cases z : a = d
      · rw [z, hL] at e
        cases e
      · rw [upd_ne z] at e
        exact e
    generalize eHL : upd H d (.frz od (.dK (dNamed nm))) = HL at nodesL hL freeL
    refine ⟨_, rfl, d, od, rfl, .inl ⟨_, hL, fun D hD => ?_⟩⟩
    have nDd : D ≠ d := (ne_of_none hL hD).symm
    refine dc_it (walk_keys (d := d) (o := od) (kvs := dNamed nm)) (fun j H' => ∃ las, Lists HL H' D (nm.take j) las (fun x => List.replicate x.inf.ts.length .non) ∧ Same HL H') ⟨[], ⟨?_, ?_, List.nodup_nil, fun _ h => (List.not_mem_nil h).elim, fun i x la h => ?_⟩, Same.past (Same.refl _) hD⟩ (fun j H' _ e => by obtain ⟨_, _, sm⟩ := e; exact sm _ _ hL) (fun j v H' H'' hj e y => ?_) (fun H' e => ?_)
    · rw [List.take_zero]
      exact upd_same
    · simp
    · rw [List.take_zero] at h
      cases h
    · obtain ⟨las, li, sm⟩ := e
      obtain ⟨rfl, k, v', ek, rfl⟩ := y
      obtain ⟨x, ex, rfl, rfl⟩ := dNamed_get ek
      have xm : x ∈ nm := List.mem_of_getElem? ex
      refine ⟨rfl, ?_⟩
      refine yes_ite ?_
      obtain ⟨B, hB, hat, _, _⟩ := (nodesL x xm).keep sm
      obtain ⟨dx, fs, hin, no⟩ := S.ins B _ _ _ hat
      refine ⟨_, rfl, (by show 1 ≤ sizeLine; decide), fun l1 h1 => ?_⟩
      have s1 := Same.new (o := .lst [V.non]) (Same.refl H'') h1
      refine ⟨_, rfl, _, rfl, d, _, rfl, .inl ⟨_, Sum.inr x.name, .inr ⟨od, s1 _ _ (sm _ _ hL)⟩, rfl, (valV_named ok.nms.nd xm).symm⟩, B, x.adr, dx, fs, hB, rfl, s1 _ _ hin, no, x.adr, _, rfl, S.keep B _ _ _ _ s1 hat, fun t G2 s2 ht => ?_⟩
      have t8 := S.few B _ _ _ hat
      refine ⟨t, _, rfl, .inr ht, l1, _, [V.non], rfl, rfl, s2 _ _ upd_same, by rw [List.length_map]; omega, by rw [List.length_map]; omega, ?_, fun la hla => ?_⟩
      · rw [List.length_map, Int.toNat_natCast]
        exact Nat.le_trans (show 1 * x.inf.ts.length ≤ 8 by omega) (by decide)
      have s3 := Same.new (o := .lst (List.replicate (((x.inf.ts.map fun (n : Nat) => V.int (n : Int)).length : Nat) : Int).toNat [V.non]).flatten) (Same.refl G2) hla
      have s13 := s1.trans (s2.trans s3)
      have laD : la ≠ D := (ne_of_none ((s1.trans s2) _ _ li.hd) hla).symm
      have er : (List.replicate (((x.inf.ts.map fun (n : Nat) => V.int (n : Int)).length : Nat) : Int).toNat [V.non]).flatten = List.replicate x.inf.ts.length V.non := by
        rw [List.length_map, Int.toNat_natCast, flat_one]
      rw [er] at s3 s13 ⊢
      have nk : nm.take (j + 1) = nm.take j ++ [x] := by
        rw [List.take_succ, ex]
        rfl
      refine ⟨_, Sum.inr x.name, rfl, s13 _ _ li.hd, ?_, las ++ [la], ?_, Same.past (sm.trans s13) hD⟩
      · rw [dLead_len li.len, List.length_take]
        exact Nat.lt_of_le_of_lt (show _ ≤ 24 by omega) (by decide)
      have fla : HL la = none := (sm.trans (s1.trans s2)).free hla
      rw [putK_new (dLead_no (name_ahead ok.nms.nd ex))]
      refine ⟨?_, ?_, ?_, fun a ha => ?_, fun i y a ey ea => ?_⟩
      · rw [nk, dLead_snoc li.len.symm]
        exact upd_same
      · rw [nk, List.length_append, List.length_append, li.len]
        rfl
      · rw [List.nodup_append]
        refine ⟨li.nd, List.nodup_cons.mpr ⟨List.not_mem_nil, List.nodup_nil⟩, fun a ha b hb => ?_⟩
        rw [List.mem_singleton.mp hb]
        intro z
        obtain ⟨i, ei⟩ := List.getElem?_of_mem ha
        have il := (List.getElem?_eq_some_iff.mp ei).1
        rw [li.len] at il
        have := (s1.trans s2) _ _ (li.at_ i _ a (List.getElem?_eq_getElem il) ei)
        rw [z, hla] at this
        cases this
      · rcases List.mem_append.mp ha with ha | ha
        · exact li.new a ha
        · rw [List.mem_singleton.mp ha]
          exact ⟨fla, laD⟩
      · rw [nk] at ey
        by_cases z : i < las.length
        · rw [List.getElem?_append_left (by rw [← li.len]; exact z)] at ey
          rw [List.getElem?_append_left z] at ea
          rw [upd_ne (li.new a (List.mem_of_getElem? ea)).2]
          exact s13 _ _ (li.at_ i y a ey ea)
        · have il := (List.getElem?_eq_some_iff.mp ea).1
          rw [List.length_append] at il
          have e0 : i = las.length := by
            have : [la].length = 1 := rfl
            omega
          subst e0
          rw [List.getElem?_concat_length] at ea
          rw [li.len, List.getElem?_concat_length] at ey
          cases ea
          cases ey
          rw [upd_ne laD]
          exact upd_same
    · obtain ⟨las, li, sm⟩ := e
      have dn : (dNamed nm).length = nm.length := by
        unfold dNamed
        rw [List.length_map]
      rw [dn, List.take_length] at li
      refine ⟨sm _ _ hL, ?_⟩
      have u1 : Same H (upd H' d (.dK (dNamed nm))) := unlock hd (eHL ▸ sm)
      have hd1 : (upd H' d (.dK (dNamed nm))) d = some (.dK (dNamed nm)) := upd_same
      have fD : H D = none := freeL hD
      have li1 : Lists H (upd H' d (.dK (dNamed nm))) D nm las (fun x => leadL (ws.take 0) x.name x.inf.ts.length) := by
        refine ⟨by rw [upd_ne nDd]; exact li.hd, li.len, li.nd, fun a ha => ⟨freeL (li.new a ha).1, (li.new a ha).2⟩, fun i x a ex ea => ?_⟩
        rw [List.take_zero, leadL_nil, upd_ne (fun z => by
          have := (li.new a (List.mem_of_getElem? ea)).1
          rw [z, hL] at this
          cases this)]
        exact li.at_ i x a ex ea
      generalize upd H' d (.dK (dNamed nm)) = H1 at u1 hd1 li1
      clear li sm
      refine ⟨_, rfl, wl, _, rfl, SqL.of (u1 _ _ hwl), ?_⟩
      refine for_it (walk_enum (xs := ps)) (fun j σ G => ∃ w3 w4 w5 w6 w7 w8 : Option V, σ = [some (.ref wl), some (.ref d), some (.ref D), w3, w4, w5, w6, w7, w8, none] ∧ Lists H G D nm las (fun x => leadL (ws.take j) x.name x.inf.ts.length) ∧ Same H G) ⟨_, _, _, _, _, _, rfl, li1, u1⟩ (fun j σ G _ e => by obtain ⟨_, _, _, _, _, _, _, _, sm⟩ := e; exact SqL.of (sm _ _ hwl)) ?_ ?_
      · rintro j v σ G G' hj ⟨w3, w4, w5, w6, w7, w8, rfl, li, sG⟩ ⟨TT, x1, x2, rfl, hTT, rfl, e1, e2⟩
        cases e1
        have e2 : ps[j]? = some x2 := e2
        obtain ⟨wr, ew, q, rfl, hq⟩ := al.get e2
        have wm : wr ∈ ws := List.mem_of_getElem? ew
        have sT := Same.new (o := .tup [V.int ((j : Nat) : Int), V.ref q]) (Same.refl G) hTT
        have sGT := sG.trans sT
        have liT := li.keep sT
        refine ⟨TT, _, rfl, .inl (.inl upd_same), rfl, _, _, rfl, _, _, rfl, rfl, ?_⟩
        generalize upd G TT (.tup [V.int ((j : Nat) : Int), V.ref q]) = GT at sT sGT liT
        refine ⟨_, rfl, _, rfl, _, rfl, _, _, d, nm, wr, rfl, ⟨q, rfl, Same.tup sGT hq⟩, sGT _ _ hd, ok.nms, nodes.keep sGT, ok.src wr wm, ok.goal wr wm, ok.del wr wm, fun G2 s2 => ?_⟩
        have li2 := liT.keep s2
        have sG2 := sGT.trans s2
        refine ⟨_, rfl, q, _, rfl, Same.tup sG2 hq, rfl, _, _, rfl, _, _, rfl, _, _, rfl, _, _, rfl, rfl, ?_⟩
        obtain ⟨x, xm, exn, xp⟩ := ok.goal wr wm
        obtain ⟨i, ei⟩ := List.getElem?_of_mem xm
        have il : i < las.length := by
          rw [li2.len]
          exact (List.getElem?_eq_some_iff.mp ei).1
        obtain ⟨la, ela⟩ : ∃ la, las[i]? = some la := ⟨_, List.getElem?_eq_getElem il⟩
        have hla := li2.at_ i x la ei ela
        have vg : valV (dLead nm las) (Sum.inr wr.goal) = some (.ref la) := exn ▸ valV_lead ok.nms.nd ei ela
        have dg : DGet G2 D (.str wr.goal) (some (.ref la)) := by
          rw [← vg]
          exact DGet.k (k := Sum.inr wr.goal) li2.hd
        have nn : numAt (ws.take j) x.name wr.place = none := exn ▸ numAt_take ok ew
        have a0 : atI (leadL (ws.take j) x.name x.inf.ts.length) (wr.place : Int) = some .non := by
          refine atI_nat (j := wr.place) ?_
          rw [leadL_get xp, nn]
          rfl
        refine ⟨_, rfl, _, rfl, D, _, rfl, dg, _, rfl, la, _, _, .non, rfl, rfl, SqL.of hla, a0, rfl, _, rfl, iteF ?_⟩
        have exP : ixN (leadL (ws.take j) x.name x.inf.ts.length).length (wr.place : Int) = some wr.place := by
          rw [leadL_len]
          unfold ixN
          simp
          omega
        refine ⟨_, rfl, _, rfl, _, rfl, D, _, rfl, dg, _, rfl, la, _, _, wr.place, rfl, rfl, hla, exP, ?_⟩
        have lam := List.mem_of_getElem? ela
        have jl : (ws.take j).length = j := by
          rw [List.length_take]
          have := (List.getElem?_eq_some_iff.mp ew).1
          omega
        have wk : ws.take (j + 1) = ws.take j ++ [wr] := by
          rw [List.take_succ, ew]
          rfl
        refine ⟨_, _, _, _, _, _, rfl, ⟨?_, li2.len, li2.nd, li2.new, fun k y b ey eb => ?_⟩, Same.past sG2 (li2.new la lam).1⟩
        · rw [upd_ne (li2.new la lam).2.symm]
          exact li2.hd
        · rw [wk]
          by_cases z : b = la
          · have ki : k = i := by
              obtain ⟨k1, g1⟩ := List.getElem?_eq_some_iff.mp eb
              obtain ⟨k2, g2⟩ := List.getElem?_eq_some_iff.mp ela
              rcases Nat.lt_trichotomy k i with l | l | l
              · exact absurd (g1.trans (z.trans g2.symm)) (List.pairwise_iff_getElem.mp li2.nd k i k1 k2 l)
              · exact l
              · exact absurd (g2.trans (z.symm.trans g1.symm)) (List.pairwise_iff_getElem.mp li2.nd i k k2 k1 l)
            subst ki
            rw [ei] at ey
            cases ey
            rw [z, exn, leadL_set xp (numAt_take ok ew), jl, ← exn]
            exact upd_same
          · have ne : wr.goal ≠ y.name := fun q' => by
              have e3 : (nm.map Nm.name)[k]? = some y.name := by rw [List.getElem?_map, ey]; rfl
              have e4 : (nm.map Nm.name)[i]? = some y.name := by rw [List.getElem?_map, ei, ← q', ← exn]; rfl
              obtain ⟨k1, g1⟩ := List.getElem?_eq_some_iff.mp e3
              obtain ⟨k2, g2⟩ := List.getElem?_eq_some_iff.mp e4
              have : k = i := by
                rcases Nat.lt_trichotomy k i with l | l | l
                · exact absurd (g1.trans g2.symm) (List.pairwise_iff_getElem.mp ok.nms.nd k i k1 k2 l)
                · exact l
                · exact absurd (g2.trans g1.symm) (List.pairwise_iff_getElem.mp ok.nms.nd i k k2 k1 l)
              subst this
              rw [ela] at eb
              exact z (Option.some.inj eb).symm
            rw [leadL_other ne, upd_ne z]
            exact li2.at_ k y b ey eb
      · rintro σ G ⟨w3, w4, w5, w6, w7, w8, rfl, li, sG⟩
        rw [al.len, List.take_length] at li
        exact ⟨_, rfl, kk D las G sG fD li⟩
end
end Sw
namespace Sw
open PySem PySem.Spec PyProof.Rows L2
theorem numAt_some {ws : List Wr} {g : Str} {p : Nat} (h : ∃ w ∈ ws, w.goal = g ∧ w.place = p) : ∃ i, numAt ws g p = some i := by
  cases e : numAt ws g p with
  | some i => exact ⟨i, rfl⟩
  | none =>
    obtain ⟨w, hw, z⟩ := h
    unfold numAt at e
    rw [List.findIdx?_eq_none_iff] at e
    have := e w hw
    rw [decide_eq_true z] at this
    cases this
theorem dLead_get {nm : List Nm} {las : List Addr} {j : Nat} {k : Key} {v : V} (h : (dLead nm las)[j]? = some (k, v)) : ∃ x la, nm[j]? = some x ∧ las[j]? = some la ∧ k = Sum.inr x.name ∧ v = .ref la := by
  unfold dLead at h
  rw [List.getElem?_zipWith] at h
  cases ea : nm[j]? with
  | none => rw [ea] at h; cases h
  | some x =>
    cases eb : las[j]? with
    | none => rw [ea, eb] at h; cases h
    | some l =>
      rw [ea, eb] at h
      cases h
      exact ⟨x, l, rfl, rfl, rfl, rfl⟩
def spBare : Sp := fun vs H Q _ => ∃ (H0 : Hp) (dl : Addr) (nm : List Nm) (las : List Addr) (ws : List Wr), vs = [.ref dl] ∧ Lists H0 H dl nm las (fun x => leadL ws x.name x.inf.ts.length) ∧ WvOk nm ws ∧ ∀ H', Same H H' → Q .non H'
/-- the numbers of the wires ahead of j that lead from a name -/
def outN (ws : List Wr) (s : Str) : Nat → List Nat
  | 0 => []
  | j + 1 => outN ws s j ++ (if ws[j]?.map Wr.src = some s then [j] else [])
def outL (ws : List Wr) (s : Str) (j : Nat) : List V := (outN ws s j).map fun (n : Nat) => V.int (n : Int)
theorem outN_len (ws : List Wr) (s : Str) : ∀ j, (outN ws s j).length ≤ j
  | 0 => Nat.le_refl 0
  | j + 1 => by
    have := outN_len ws s j
    unfold outN
    rw [List.length_append]
    split <;> simp <;> omega
theorem outN_mem {ws : List Wr} {s : Str} : ∀ {j n : Nat}, n ∈ outN ws s j ↔ n < j ∧ ws[n]?.map Wr.src = some s
  | 0, n => by simp [outN]
  | j + 1, n => by
    unfold outN
    rw [List.mem_append, outN_mem (j := j)]
    constructor
    · rintro (⟨h1, h2⟩ | h)
      · exact ⟨by omega, h2⟩
      · split at h
        · rename_i z
          rw [List.mem_singleton.mp h]
          exact ⟨by omega, z⟩
        · cases h
    · rintro ⟨h1, h2⟩
      by_cases z : n = j
      · subst z
        right
        rw [if_pos h2]
        exact List.mem_singleton.mpr rfl
      · exact .inl ⟨by omega, h2⟩
def spLeav (K : PySem.W.Frag) : Sp := fun vs H Q _ => ∃ (wl d : Addr) (nm : List Nm) (ws : List Wr), vs = [.ref wl, .ref d] ∧ WiresAt K H wl ws ∧ H d = some (.dK (dNamed nm)) ∧ WvOk nm ws ∧ ∀ (dl : Addr) (las : List Addr) (H' : Hp), Same H H' → H dl = none → Lists H H' dl nm las (fun x => outL ws x.name ws.length) → Q (.ref dl) H'
/-- a list at one place is stored anew -/
theorem Lists.store {H0 H : Hp} {d : Addr} {nm : List Nm} {las : List Addr} {L L' : Nm → List V} (h : Lists H0 H d nm las L) (nd : (nm.map Nm.name).Nodup) {i : Nat} {x : Nm} {la : Addr} (ei : nm[i]? = some x) (ela : las[i]? = some la) (hx : L' x = L' x) (ho : ∀ y ∈ nm, y.name ≠ x.name → L' y = L y) : Lists H0 (L2.upd H la (.lst (L' x))) d nm las L' := by
  have lam := List.mem_of_getElem? ela
  refine ⟨?_, h.len, h.nd, h.new, fun k y b ey eb => ?_⟩
  · rw [upd_ne (h.new la lam).2.symm]
    exact h.hd
  · by_cases z : b = la
    · have ki : k = i := by
        obtain ⟨k1, g1⟩ := List.getElem?_eq_some_iff.mp eb
        obtain ⟨k2, g2⟩ := List.getElem?_eq_some_iff.mp ela
        rcases Nat.lt_trichotomy k i with l | l | l
        · exact absurd (g1.trans (z.trans g2.symm)) (List.pairwise_iff_getElem.mp h.nd k i k1 k2 l)
        · exact l
        · exact absurd (g2.trans (z.symm.trans g1.symm)) (List.pairwise_iff_getElem.mp h.nd i k k2 k1 l)
      subst ki
      rw [ei] at ey
      cases ey
      rw [z]
      exact upd_same
    · have ne : y.name ≠ x.name := fun q' => by
        have e3 : (nm.map Nm.name)[k]? = some y.name := by rw [List.getElem?_map, ey]; rfl
        have e4 : (nm.map Nm.name)[i]? = some y.name := by rw [List.getElem?_map, ei, q']; rfl
        obtain ⟨k1, g1⟩ := List.getElem?_eq_some_iff.mp e3
        obtain ⟨k2, g2⟩ := List.getElem?_eq_some_iff.mp e4
        have : k = i := by
          rcases Nat.lt_trichotomy k i with l | l | l
          · exact absurd (g1.trans g2.symm) (List.pairwise_iff_getElem.mp nd k i k1 k2 l)
          · exact l
          · exact absurd (g2.trans g1.symm) (List.pairwise_iff_getElem.mp nd i k k2 k1 l)
        subst this
        rw [ela] at eb
        exact z (Option.some.inj eb).symm
      rw [ho y (List.mem_of_getElem? ey) ne, upd_ne z]
      exact h.at_ k y b ey eb
section
variable {P : Program} {w : World} {K : PySem.W.Frag} {mg : Str → Option Value} {base : Heap} {f f1 f2 f3 f4 f5 f6 f7 f8 f9 C CN CO CI CW : Addr} {fd fd1 fd2 fd3 fd4 fd5 fd6 fd7 fd8 fd9 : FuncData}
abbrev nRefuseBare : List Str := ["leading", "name", "place", "number"]
theorem scRefuseBare : FnScope nRefuseBare ["leading"] (defScope sRefuseBare) := ⟨rfl, rfl, rfl, by decide +kernel, rfl, by decide +kernel, by decide +kernel⟩
theorem ok_bare (F : FnP K "refuse_bare" sRefuseBare f fd) (gEnum : mg "enumerate" = none) : FnOk P w K mg base CX0 1 f fd ["leading"] spBare := by
  refine F.ok scRefuseBare (fun vs H Q E h => ?_) (fun cdv A outer s H vs Q E hr h => ?_)
  · obtain ⟨H0, dl, nm, las, ws, rfl, _⟩ := h
    rfl
  · obtain ⟨H0, dl, nm, las, ws, rfl, li, ok, kk⟩ := h
    have hu := hu_of hr
    have nd := scRefuseBare.nd
    refine ⟨_, PSs.nox (pss_one (ps_lock (ps_for PassesOwn.never rfl (pi_keys (pv 0)) (pg_name (i := 1) nd rfl (Or.inl rfl))
      (pss_one (ps_for PassesOwn.never rfl (pi_enum rfl gEnum (pa_cons (pe_dget hu (pv 0) (pv 1) (fun _ _ => rfl)) pa_nil)) (pg_tup rfl (pgs_cons (pg_name (i := 2) nd rfl (Or.inl rfl)) (pgs_cons (pg_name (i := 3) nd rfl (Or.inl rfl)) pgs_nil)))
      (pss_one (ps_if (pt_cmpR op_isN (pv 3) pe_non (nomark _)) pss_never pss_nil))))))), ?_⟩
    refine ⟨dl, _, li.hd, trivial, fun od => ?_⟩
    have hL : (upd H dl (.frz od (.dK (dLead nm las)))) dl = some (.frz od (.dK (dLead nm las))) := upd_same
    have atL : ∀ (i : Nat) (x : Nm) (la : Addr), nm[i]? = some x → las[i]? = some la → (upd H dl (.frz od (.dK (dLead nm las)))) la = some (.lst (leadL ws x.name x.inf.ts.length)) := fun i x la e1 e2 => by
      rw [upd_ne (li.new la (List.mem_of_getElem? e2)).2]
      exact li.at_ i x la e1 e2
    generalize eHL : upd H dl (.frz od (.dK (dLead nm las))) = HL at hL atL
    refine ⟨_, rfl, dl, od, rfl, .inl ⟨_, hL, ?_⟩⟩
    refine for_it (walk_keys (d := dl) (o := od) (kvs := dLead nm las)) (fun j σ G => ∃ w1 w2 w3 : Option V, σ = [some (.ref dl), w1, w2, w3] ∧ Same HL G) ⟨_, _, _, rfl, Same.refl _⟩ (fun j σ G _ e => by obtain ⟨_, _, _, _, sm⟩ := e; exact sm _ _ hL) ?_ ?_
    · rintro j v σ G G' hj ⟨w1, w2, w3, rfl, sG⟩ ⟨rfl, k, v', ek, rfl⟩
      obtain ⟨x, la, ex, ela, rfl, rfl⟩ := dLead_get ek
      have xm : x ∈ nm := List.mem_of_getElem? ex
      refine ⟨_, rfl, _, rfl, dl, _, rfl, .inl ⟨_, Sum.inr x.name, .inr ⟨od, sG _ _ hL⟩, rfl, (valV_lead ok.nms.nd ex ela).symm⟩, la, _, rfl, SqL.of (sG _ _ (atL j x la ex ela)), ?_⟩
      refine for_it (walk_enum (xs := leadL ws x.name x.inf.ts.length)) (fun i σ G2 => ∃ w2 w3 : Option V, σ = [some (.ref dl), some (.str x.name), w2, w3] ∧ Same HL G2) ⟨_, _, rfl, sG⟩ (fun i σ G2 _ e => by obtain ⟨_, _, _, sm⟩ := e; exact SqL.of (sm _ _ (atL j x la ex ela))) ?_ ?_
      · rintro i v σ G2 G3 hi ⟨w2, w3, rfl, sG2⟩ ⟨TT, x1, x2, rfl, hTT, rfl, e1, e2⟩
        cases e1
        rw [leadL_len] at hi
        have e2 : (leadL ws x.name x.inf.ts.length)[i]? = some x2 := e2
        rw [leadL_get hi] at e2
        obtain ⟨n, en⟩ := numAt_some (ok.all x xm i hi)
        rw [en] at e2
        cases e2
        refine ⟨TT, _, rfl, .inl (.inl upd_same), rfl, _, _, rfl, _, _, rfl, rfl, ?_⟩
        refine ⟨_, rfl, rfl, _, rfl, iteF ?_⟩
        exact ⟨_, _, rfl, Same.new sG2 hTT⟩
      · rintro σ G2 ⟨w2, w3, rfl, sG2⟩
        exact ⟨_, _, _, rfl, sG2⟩
    · rintro σ G ⟨w1, w2, w3, rfl, sG⟩
      exact ⟨sG _ _ hL, kk _ (unlock li.hd (eHL ▸ sG))⟩
end
end Sw
namespace Sw
open PySem PySem.Spec PyProof.Rows L2
/-- fresh lists for all nodes, as a comprehension over the names makes them -/
theorem Lists.snoc {H0 H H1 : Hp} {d la : Addr} {nm : List Nm} {las : List Addr} {L : Nm → List V} {x : Nm} (li : Lists H0 H d nm las L) (s : Same H H1) (fla : H0 la = none) (free : H la = none) (hla : H1 la = some (.lst (L x))) : Lists H0 (L2.upd H1 d (.dK (dLead nm las ++ [(Sum.inr x.name, .ref la)]))) d (nm ++ [x]) (las ++ [la]) L := by
  have laD : la ≠ d := (ne_of_none li.hd free).symm
  refine ⟨?_, ?_, ?_, fun a ha => ?_, fun i y a ey ea => ?_⟩
  · rw [dLead_snoc li.len.symm]
    exact upd_same
  · rw [List.length_append, List.length_append, li.len]
    rfl
  · rw [List.nodup_append]
    refine ⟨li.nd, List.nodup_cons.mpr ⟨List.not_mem_nil, List.nodup_nil⟩, fun a ha b hb => ?_⟩
    rw [List.mem_singleton.mp hb]
    intro z
    obtain ⟨i, ei⟩ := List.getElem?_of_mem ha
    have il := (List.getElem?_eq_some_iff.mp ei).1
    rw [li.len] at il
    have := li.at_ i _ a (List.getElem?_eq_getElem il) ei
    rw [z, free] at this
    cases this
  · rcases List.mem_append.mp ha with ha | ha
    · exact li.new a ha
    · rw [List.mem_singleton.mp ha]
      exact ⟨fla, laD⟩
  · by_cases z : i < las.length
    · rw [List.getElem?_append_left (by rw [← li.len]; exact z)] at ey
      rw [List.getElem?_append_left z] at ea
      rw [upd_ne (li.new a (List.mem_of_getElem? ea)).2]
      exact s _ _ (li.at_ i y a ey ea)
    · have il := (List.getElem?_eq_some_iff.mp ea).1
      rw [List.length_append] at il
      have e0 : i = las.length := by
        have : [la].length = 1 := rfl
        omega
      subst e0
      rw [List.getElem?_concat_length] at ea
      rw [li.len, List.getElem?_concat_length] at ey
      cases ea
      cases ey
      rw [upd_ne laD]
      exact hla
theorem Lists.none {H0 : Hp} {H : Hp} {d : Addr} {L : Nm → List V} (h : H d = some (.dK [])) : Lists H0 H d [] [] L := ⟨h, rfl, List.nodup_nil, fun _ h => (List.not_mem_nil h).elim, fun i x la h => by cases h⟩
theorem Lists.other {H0 H0' H H1 : Hp} {d : Addr} {nm : List Nm} {las : List Addr} {L L' : Nm → List V} (li : Lists H0 H d nm las L) (h0 : ∀ a, H0 a = Option.none → H0' a = Option.none) (hd : H1 d = some (.dK (dLead nm las))) (h : ∀ (i : Nat) (x : Nm) (la : Addr), nm[i]? = some x → las[i]? = some la → H1 la = some (.lst (L' x))) : Lists H0' H1 d nm las L' := ⟨hd, li.len, li.nd, fun a ha => ⟨h0 a (li.new a ha).1, (li.new a ha).2⟩, h⟩
section
variable {P : Program} {w : World} {K : PySem.W.Frag} {mg : Str → Option Value} {base : Heap} {f f1 f2 f3 f4 f5 f6 f7 f8 f9 C CN CO CI CW : Addr} {fd fd1 fd2 fd3 fd4 fd5 fd6 fd7 fd8 fd9 : FuncData}
abbrev nWiresBySource : List Str := ["wires", "named", "leaving", "number", "wire", "name"]
theorem scWiresBySource : FnScope nWiresBySource ["wires", "named"] (defScope sWiresBySource) := ⟨rfl, rfl, rfl, by decide +kernel, rfl, by decide +kernel, by decide +kernel⟩
theorem ok_leav (F : FnP K "wires_by_source" sWiresBySource f fd) (gEnum : mg "enumerate" = none) : FnOk P w K mg base CX0 1 f fd ["wires", "named"] (spLeav K) := by
  refine F.ok scWiresBySource (fun vs H Q E h => ?_) (fun cdv A outer s H vs Q E hr h => ?_)
  · obtain ⟨wl, d, nm, ws, rfl, _⟩ := h
    rfl
  · obtain ⟨wl, d, nm, ws, rfl, ⟨ps, hwl, al⟩, hd, ok, kk⟩ := h
    have hu := hu_of hr
    have nd := scWiresBySource.nd
    have few := ok.nms.few
    refine ⟨_, PSs.nox (pss_cons (ps_lock (ps_setDc (i := 2) (own := [("name", 5)]) (g := (gName 5)) (tt := tYes) rfl nd rfl rfl (swd_true rfl rfl rfl rfl) (pi_keys (pv 1)) (blkOk_by (N := nWiresBySource) (sc := defScope sWiresBySource) (by decide +kernel))
        (fun _ _ _ _ _ => (pg_name (i := 5) nd rfl (Or.inl rfl))) (fun _ _ _ _ _ => pts_nil) (fun _ _ _ _ _ => (pv 5)) (fun _ _ _ _ _ => (pe_lst pa_nil))))
      (pss_cons (ps_for PassesOwn.never rfl (pi_enum rfl gEnum (pa_cons (pv 0) pa_nil)) (pg_tup rfl (pgs_cons (pg_name (i := 3) nd rfl (Or.inl rfl)) (pgs_cons (pg_name (i := 4) nd rfl (Or.inl rfl)) pgs_nil)))
      (pss_one (ps_expr (pe_bm PySem.F.plainAttrs_list PySem.F.slot_list_append PySem.F.type_list_append mt_append (pe_dget hu (pv 2) (pe_ix ix_tup (pv 4) pe_int (fun _ _ => rfl)) (fun _ _ => rfl)) (pa_cons (pv 3) pa_nil)))))
      (pss_one (ps_ret (pv 2))))), ?_⟩
    refine ⟨d, _, hd, trivial, fun od => ?_⟩
    have hL : (upd H d (.frz od (.dK (dNamed nm)))) d = some (.frz od (.dK (dNamed nm))) := upd_same
    have freeL : ∀ {a : Addr}, (upd H d (.frz od (.dK (dNamed nm)))) a = none → H a = none := fun {a} e => by
      by_cases z : a = d
      · rw [z, hL] at e
        cases e
      · rw [upd_ne z] at e
        exact e
    generalize eHL : upd H d (.frz od (.dK (dNamed nm))) = HL at hL freeL
    refine ⟨_, rfl, d, od, rfl, .inl ⟨_, hL, fun D hD => ?_⟩⟩
    have nDd : D ≠ d := (ne_of_none hL hD).symm
    refine dc_it (walk_keys (d := d) (o := od) (kvs := dNamed nm)) (fun j H' => ∃ las, Lists HL H' D (nm.take j) las (fun _ => []) ∧ Same HL H') ⟨[], by rw [List.take_zero]; exact Lists.none upd_same, Same.past (Same.refl _) hD⟩ (fun j H' _ e => by obtain ⟨_, _, sm⟩ := e; exact sm _ _ hL) (fun j v H' H'' hj e y => ?_) (fun H' e => ?_)
    · obtain ⟨las, li, sm⟩ := e
      obtain ⟨rfl, k, v', ek, rfl⟩ := y
      obtain ⟨x, ex, rfl, rfl⟩ := dNamed_get ek
      refine ⟨rfl, ?_⟩
      refine yes_ite ?_
      refine ⟨_, rfl, (by show 0 ≤ sizeLine; decide), fun la hla => ?_⟩
      have s1 := Same.new (o := .lst []) (Same.refl H'') hla
      have nk : nm.take (j + 1) = nm.take j ++ [x] := by
        rw [List.take_succ, ex]
        rfl
      refine ⟨_, Sum.inr x.name, rfl, s1 _ _ li.hd, ?_, las ++ [la], ?_, Same.past (sm.trans s1) hD⟩
      · rw [dLead_len li.len, List.length_take]
        exact Nat.lt_of_le_of_lt (show _ ≤ 24 by omega) (by decide)
      rw [putK_new (dLead_no (name_ahead ok.nms.nd ex)), nk]
      exact li.snoc s1 (sm.free hla) hla upd_same
    · obtain ⟨las, li, sm⟩ := e
      have dn : (dNamed nm).length = nm.length := by
        unfold dNamed
        rw [List.length_map]
      rw [dn, List.take_length] at li
      refine ⟨sm _ _ hL, ?_⟩
      have u1 : Same H (upd H' d (.dK (dNamed nm))) := unlock hd (eHL ▸ sm)
      have fD : H D = none := freeL hD
      have li1 : Lists H (upd H' d (.dK (dNamed nm))) D nm las (fun x => outL ws x.name 0) := by
        refine li.other (fun a => freeL) (by rw [upd_ne nDd]; exact li.hd) fun i x a ex ea => ?_
        rw [upd_ne (fun z => by
          have := (li.new a (List.mem_of_getElem? ea)).1
          rw [z, hL] at this
          cases this)]
        exact li.at_ i x a ex ea
      generalize upd H' d (.dK (dNamed nm)) = H1 at u1 li1
      clear li sm
      refine ⟨_, rfl, wl, _, rfl, SqL.of (u1 _ _ hwl), ?_⟩
      refine for_it (walk_enum (xs := ps)) (fun j σ G => ∃ w3 w4 : Option V, σ = [some (.ref wl), some (.ref d), some (.ref D), w3, w4, none] ∧ Lists H G D nm las (fun x => outL ws x.name j) ∧ Same H G) ⟨_, _, rfl, li1, u1⟩ (fun j σ G _ e => by obtain ⟨_, _, _, _, sm⟩ := e; exact SqL.of (sm _ _ hwl)) ?_ ?_
      · rintro j v σ G G' hj ⟨w3, w4, rfl, li, sG⟩ ⟨TT, x1, x2, rfl, hTT, rfl, e1, e2⟩
        cases e1
        have e2 : ps[j]? = some x2 := e2
        obtain ⟨wr, ew, q, rfl, hq⟩ := al.get e2
        have wm : wr ∈ ws := List.mem_of_getElem? ew
        have sT := Same.new (o := .tup [V.int ((j : Nat) : Int), V.ref q]) (Same.refl G) hTT
        have sGT := sG.trans sT
        have liT := li.keep sT
        refine ⟨TT, _, rfl, .inl (.inl upd_same), rfl, _, _, rfl, _, _, rfl, rfl, ?_⟩
        generalize upd G TT (.tup [V.int ((j : Nat) : Int), V.ref q]) = GT at sT sGT liT
        obtain ⟨x, xm, exn, _⟩ := ok.src wr wm
        obtain ⟨i, ei⟩ := List.getElem?_of_mem xm
        have il : i < las.length := by
          rw [liT.len]
          exact (List.getElem?_eq_some_iff.mp ei).1
        obtain ⟨la, ela⟩ : ∃ la, las[i]? = some la := ⟨_, List.getElem?_eq_getElem il⟩
        have hla := liT.at_ i x la ei ela
        have dg : DGet GT D (.str wr.src) (some (.ref la)) := by
          rw [← (exn ▸ valV_lead ok.nms.nd ei ela : valV (dLead nm las) (Sum.inr wr.src) = some (.ref la))]
          exact DGet.k (k := Sum.inr wr.src) liT.hd
        refine ⟨_, rfl, _, rfl, q, _, _, _, rfl, rfl, Same.tup sGT hq, atI_nat (j := 0) rfl, D, _, rfl, dg, .inl ⟨rfl, _, SqL.of hla⟩, _, rfl, la, _, _, rfl, rfl, hla, ?_, ?_⟩
        · unfold outL
          rw [List.length_map]
          have := outN_len ws x.name j
          have := ok.few
          have := (List.getElem?_eq_some_iff.mp ew).1
          exact Nat.lt_of_le_of_lt (show _ ≤ 48 by omega) (by decide)
        have es : ∀ y : Nm, outL ws y.name (j + 1) = outL ws y.name j ++ (if wr.src = y.name then [V.int (j : Int)] else []) := fun y => by
          unfold outL
          show (outN ws y.name j ++ _).map _ = _
          rw [List.map_append, ew]
          congr 1
          by_cases z : wr.src = y.name
          · rw [if_pos z, if_pos (by rw [Option.map_some, z])]
            rfl
          · rw [if_neg z, if_neg (show ¬ Option.map Wr.src (some wr) = some y.name from fun q' => z (Option.some.inj q'))]
            rfl
        refine ⟨_, _, rfl, ?_, Same.past sGT (liT.new la (List.mem_of_getElem? ela)).1⟩
        have := liT.store (L' := fun x => outL ws x.name (j + 1)) ok.nms.nd ei ela rfl (fun y hy ne => by
          rw [es y, if_neg (fun z => ne (z.symm.trans exn.symm)), List.append_nil])
        rw [show outL ws x.name (j + 1) = outL ws x.name j ++ [V.int (j : Int)] by rw [es x, if_pos exn.symm]] at this
        exact this
      · rintro σ G ⟨w3, w4, rfl, li, sG⟩
        rw [al.len] at li
        exact ⟨_, rfl, kk D las G sG fD li⟩
end
end Sw
namespace Sw
open PySem PySem.Spec PyProof.Rows L2
/-! ### where one comes to -/
def dReach (rs : List Str) : List (Key × V) := rs.map fun s => (Sum.inr s, .bl true)
theorem reach_in {rs : List Str} {s : Str} : (valV (dReach rs) (Sum.inr s)).isSome = decide (s ∈ rs) := by
  induction rs with
  | nil => rfl
  | cons a r ih =>
    unfold valV dReach at ih ⊢
    rw [List.map_cons, List.find?_cons]
    by_cases z : a = s
    · rw [decide_eq_true (congrArg Sum.inr z), decide_eq_true (by rw [z]; exact List.mem_cons_self)]
      rfl
    · rw [decide_eq_false (fun q => z (Sum.inr.inj q))]
      show _ = decide (s ∈ a :: r)
      rw [ih]
      congr 1
      apply propext
      rw [List.mem_cons]
      exact ⟨.inr, fun h => h.resolve_left (Ne.symm z)⟩
theorem reach_put {rs : List Str} {s : Str} (h : s ∉ rs) : putK (dReach rs) (Sum.inr s) (.bl true) = dReach (rs ++ [s]) := by
  have : valV (dReach rs) (Sum.inr s) = none := by
    have e := reach_in (rs := rs) (s := s)
    rw [decide_eq_false h] at e
    cases z : valV (dReach rs) (Sum.inr s) with
    | none => rfl
    | some v => rw [z] at e; cases e
  rw [putK_new this]
  unfold dReach
  rw [List.map_append]
  rfl
theorem reach_again {rs : List Str} {s : Str} (h : s ∈ rs) : putK (dReach rs) (Sum.inr s) (.bl true) = dReach rs := by
  unfold putK
  rw [if_pos (show (dReach rs).any (fun kv => decide (kv.1 = Sum.inr s)) = true from List.any_eq_true.mpr ⟨(Sum.inr s, .bl true), List.mem_map.mpr ⟨s, h, rfl⟩, decide_eq_true rfl⟩)]
  unfold dReach
  rw [List.map_map]
  apply List.map_congr_left
  intro a _
  show (if (Sum.inr a : Key) = Sum.inr s then ((Sum.inr a : Key), V.bl true) else (Sum.inr a, V.bl true)) = _
  split <;> rfl
/-- rows of names by the nodes' names -/
def strL (l : List Str) : List V := l.map V.str
/-- one comes there from the starts -/
inductive RL (nm : List Nm) (L : Nm → List Str) (starts : List Str) : Str → Prop
  | start {s : Str} : s ∈ starts → RL nm L starts s
  | step {x : Nm} {s : Str} : x ∈ nm → RL nm L starts x.name → s ∈ L x → RL nm L starts s
/-- each once, in order -/
def onceF (acc : List Str) (s : Str) : List Str := if s ∈ acc then acc else acc ++ [s]
def once (l : List Str) : List Str := l.foldl onceF []
theorem onceF_mem {acc : List Str} {x s : Str} : s ∈ onceF acc x ↔ s ∈ acc ∨ s = x := by
  unfold onceF
  split
  · rename_i h
    exact ⟨.inl, fun z => z.elim id (fun e => e ▸ h)⟩
  · rw [List.mem_append, List.mem_singleton]
theorem onceF_nd {acc : List Str} {x : Str} (h : acc.Nodup) : (onceF acc x).Nodup := by
  unfold onceF
  split
  · exact h
  · rename_i n
    rw [List.nodup_append]
    exact ⟨h, List.nodup_cons.mpr ⟨List.not_mem_nil, List.nodup_nil⟩, fun a ha b hb q => n (by rw [← List.mem_singleton.mp hb, ← q]; exact ha)⟩
theorem once_memA {s : Str} : ∀ {l acc : List Str}, s ∈ l.foldl onceF acc ↔ s ∈ acc ∨ s ∈ l
  | [], acc => ⟨.inl, fun z => z.elim id (fun e => nomatch e)⟩
  | x :: l, acc => by
    rw [List.foldl_cons, once_memA, onceF_mem, List.mem_cons, or_assoc]
theorem once_mem {s : Str} {l : List Str} : s ∈ once l ↔ s ∈ l := by
  unfold once
  rw [once_memA]
  exact ⟨fun z => z.elim (fun e => nomatch e) id, .inr⟩
theorem once_ndA : ∀ {l acc : List Str}, acc.Nodup → (l.foldl onceF acc).Nodup
  | [], _, h => h
  | _ :: l, _, h => by
    rw [List.foldl_cons]
    exact once_ndA (onceF_nd h)
theorem once_nd {l : List Str} : (once l).Nodup := once_ndA List.nodup_nil
theorem once_snoc {l : List Str} {x : Str} : once (l ++ [x]) = onceF (once l) x := by
  unfold once
  rw [List.foldl_append]
  rfl
def spReached : Sp := fun vs H Q _ => ∃ (H0 : Hp) (st on : Addr) (starts : List Str) (nm : List Nm) (las : List Addr) (L : Nm → List Str), vs = [.ref st, .ref on] ∧ H st = some (.lst (strL starts)) ∧ starts.length ≤ 24 ∧ Lists H0 H on nm las (fun x => strL (L x)) ∧ NmsOk nm ∧ (∀ s ∈ starts, s ∈ nm.map Nm.name) ∧ (∀ x ∈ nm, ∀ s ∈ L x, s ∈ nm.map Nm.name) ∧
  ∀ (r : Addr) (rs : List Str) (H' : Hp), Same H H' → H r = none → H' r = some (.dK (dReach rs)) → (∀ s ∈ starts, s ∈ rs) → (∀ x ∈ nm, x.name ∈ rs → ∀ s ∈ L x, s ∈ rs) → (∀ s ∈ rs, s ∈ nm.map Nm.name) → (∀ s ∈ rs, RL nm L starts s) → Q (.ref r) H'
theorem nodup_len : ∀ {rs ns : List Str}, rs.Nodup → (∀ x ∈ rs, x ∈ ns) → rs.length ≤ ns.length
  | [], _, _, _ => Nat.zero_le _
  | a :: r, ns, h, s => by
    have h1 := List.nodup_cons.mp h
    have am := s a List.mem_cons_self
    have ih := nodup_len (ns := ns.erase a) h1.2 fun x hx => (List.mem_erase_of_ne (fun z => h1.1 (by rw [← z]; exact hx))).mpr (s x (List.mem_cons_of_mem _ hx))
    rw [List.length_erase_of_mem am] at ih
    have := List.length_pos_of_mem am
    rw [List.length_cons]
    omega
theorem nm_inj {nm : List Nm} (nd : (nm.map Nm.name).Nodup) {x y : Nm} (hx : x ∈ nm) (hy : y ∈ nm) (e : x.name = y.name) : x = y := by
  obtain ⟨i, ei⟩ := List.getElem?_of_mem hx
  obtain ⟨j, ej⟩ := List.getElem?_of_mem hy
  have e1 : (nm.map Nm.name)[i]? = some x.name := by rw [List.getElem?_map, ei]; rfl
  have e2 : (nm.map Nm.name)[j]? = some x.name := by rw [List.getElem?_map, ej, e]; rfl
  obtain ⟨i1, f1⟩ := List.getElem?_eq_some_iff.mp e1
  obtain ⟨j1, f2⟩ := List.getElem?_eq_some_iff.mp e2
  have : i = j := by
    rcases Nat.lt_trichotomy i j with z | z | z
    · exact absurd (f1.trans f2.symm) (List.pairwise_iff_getElem.mp nd i j i1 j1 z)
    · exact z
    · exact absurd (f2.trans f1.symm) (List.pairwise_iff_getElem.mp nd j i j1 i1 z)
  rw [this, ej] at ei
  exact (Option.some.inj ei).symm
theorem seq_while {c : L2.TT} {tb u : L2.TS} {D : L2.Ends} {σ : L2.St} {H : Hp} (h : L2.tWhile c tb { D with nx := u D } σ H) : L2.tSeq (L2.tWhile c tb) u D σ H := h
section
variable {P : Program} {w : World} {K : PySem.W.Frag} {mg : Str → Option Value} {base : Heap} {f f1 f2 f3 f4 f5 f6 f7 f8 f9 C CN CO CI CW : Addr} {fd fd1 fd2 fd3 fd4 fd5 fd6 fd7 fd8 fd9 : FuncData}
abbrev nAllReached : List Str := ["starts", "onward", "reached", "coming", "here", "name"]
theorem scAllReached : FnScope nAllReached ["starts", "onward"] (defScope sAllReached) := ⟨rfl, rfl, rfl, by decide +kernel, rfl, by decide +kernel, by decide +kernel⟩
theorem ok_reached (F : FnP K "all_reached" sAllReached f fd) (gList : mg "list" = none) : FnOk P w K mg base CX0 1 f fd ["starts", "onward"] spReached := by
  refine F.ok scAllReached (fun vs H Q E h => ?_) (fun cdv A outer s H vs Q E hr h => ?_)
  · obtain ⟨H0, st, on, starts, nm, las, L, rfl, _⟩ := h
    rfl
  · obtain ⟨H0, st, on, starts, nm, las, L, rfl, hst, snd, li, nok, sin, lin, kk⟩ := h
    have hu := hu_of hr
    have nd := scAllReached.nd
    have few : (nm.map Nm.name).length ≤ 24 := by
      rw [List.length_map]
      exact nok.few
    refine ⟨_, PSs.nox (pss_cons (ps_setDc (i := 2) (own := [("name", 5)]) (g := (gName 5)) (tt := tYes) rfl nd rfl rfl (swd_true rfl rfl rfl rfl) (pi_list (pv 0)) (blkOk_by (N := nAllReached) (sc := defScope sAllReached) (by decide +kernel))
        (fun _ _ _ _ _ => (pg_name (i := 5) nd rfl (Or.inl rfl))) (fun _ _ _ _ _ => pts_nil) (fun _ _ _ _ _ => (pv 5)) (fun _ _ _ _ _ => pe_bl))
      (pss_cons (ps_set (i := 3) nd rfl (Or.inl rfl) (pe_callTy (call_list_ofK (K := K) rfl) (by rfl) gList PyProof.Rows.boot_list (pa_cons (pv 0) pa_nil)))
      (pss_cons (ps_while PassesOwn.never (pt_truth (pv 3) (fun _ => rfl))
      (pss_cons (ps_set (i := 4) nd rfl (Or.inl rfl) (pe_bm0 PySem.F.plainAttrs_list PySem.F.slot_list_pop PySem.F.type_list_pop mt_pop (pv 3)))
      (pss_one (ps_for PassesOwn.never rfl (pi_list (pe_dget hu (pv 1) (pv 4) (fun _ _ => rfl))) (pg_name (i := 5) nd rfl (Or.inl rfl))
      (pss_one (ps_if (pt_cmp (pc_dnotin hu (pv 5) (pv 2))) (pss_cons (ps_dput hu (pv 2) (pv 5) pe_bl rfl)
      (pss_one (ps_expr (pe_bm PySem.F.plainAttrs_list PySem.F.slot_list_append PySem.F.type_list_append mt_append (pv 3) (pa_cons (pv 5) pa_nil))))) pss_nil))))))
      (pss_one (ps_ret (pv 2)))))), ?_⟩
    refine ⟨_, rfl, st, rfl, ⟨_, SqL.of hst⟩, fun r hr0 => ?_⟩
    refine dc_it (walk_list (xs := strL starts)) (fun j H' => H' r = some (.dK (dReach (once (starts.take j)))) ∧ Same H H') ⟨by rw [List.take_zero]; exact upd_same, Same.past (Same.refl _) hr0⟩ (fun j H' _ e => SqL.of (e.2 _ _ hst)) (fun j v H' H'' hj e y => ?_) (fun H1 e => ?_)
    · obtain ⟨hrr, sm⟩ := e
      obtain ⟨rfl, ex⟩ := y
      unfold strL at ex
      rw [List.getElem?_map] at ex
      obtain ⟨x, ey, e0⟩ := Option.map_eq_some_iff.mp ex
      clear ex
      have ex := ey
      clear ey
      subst e0
      refine ⟨rfl, ?_⟩
      refine yes_ite ?_
      refine ⟨_, rfl, _, Sum.inr x, rfl, hrr, ?_, ?_, Same.past sm hr0⟩
      · unfold dReach
        rw [List.length_map]
        have := nodup_len (once_nd (l := starts.take j)) (fun s h => sin s (List.mem_of_mem_take (once_mem.mp h)))
        exact Nat.lt_of_le_of_lt (show _ ≤ 24 by omega) (by decide)
      · rw [List.take_succ, ex]
        show _ = some (HO.dK (dReach (once (starts.take j ++ [x]))))
        rw [once_snoc]
        unfold onceF
        by_cases z : x ∈ once (starts.take j)
        · rw [if_pos z, reach_again z]
          exact upd_same
        · rw [if_neg z, reach_put z]
          exact upd_same
    · obtain ⟨hrr, s1⟩ := e
      have sl : (strL starts).length = starts.length := by
        unfold strL
        rw [List.length_map]
      rw [sl, List.take_length] at hrr
      refine ⟨_, rfl, st, _, rfl, .inl (SqL.of (s1 _ _ hst)), fun co hco => ?_⟩
      have nrc : r ≠ co := ne_of_none hrr hco
      have s2 := Same.new (o := .lst (strL starts)) (Same.refl H1) hco
      have fco : H co = none := s1.free hco
      -- what is reached is closed but for what is coming
      dsimp only [gName]
      refine seq_while (while_by (fun σ G => ∃ (w4 w5 : Option V) (rs cs : List Str), σ = [some (.ref st), some (.ref on), some (.ref r), some (.ref co), w4, w5] ∧ G r = some (.dK (dReach rs)) ∧ G co = some (.lst (strL cs)) ∧ Same H G ∧ rs.Nodup ∧ (∀ s ∈ rs, s ∈ nm.map Nm.name) ∧ (∀ s ∈ cs, s ∈ rs) ∧ (∀ s ∈ starts, s ∈ rs) ∧ (∀ x ∈ nm, x.name ∈ rs → x.name ∉ cs → ∀ s ∈ L x, s ∈ rs) ∧ 2 * (24 - rs.length) + cs.length ≤ 72 ∧ ∀ s ∈ rs, RL nm L starts s)
        (fun σ G => match G r, G co with
          | some (.dK kvs), some (.lst xs) => 2 * (24 - kvs.length) + xs.length
          | _, _ => 0)
        ⟨_, _, once starts, starts, rfl, s2 _ _ hrr, upd_same, s1.trans s2, once_nd, fun s h => sin s (once_mem.mp h), fun s h => once_mem.mpr h, fun s h => once_mem.mpr h, fun x _ h1 h2 => absurd (once_mem.mp h1) h2, by omega, fun s h => .start (once_mem.mp h)⟩ ?_ ?_)
      · rintro σ G ⟨w4, w5, rs, cs, rfl, hR, hC, sG, rnd, rin, cin, stin, clo, clen, rl0⟩
        refine ⟨_, rfl, _, .inl ⟨_, SqL.of hC, rfl⟩, ?_⟩
        rcases List.eq_nil_or_concat cs with rfl | ⟨c1, here, rfl⟩
        · refine iteF_ rfl ?_
          exact ⟨_, rfl, kk r rs G sG hr0 hR stin (fun x hx h => clo x hx h List.not_mem_nil) rin rl0⟩
        · rw [List.concat_eq_append] at hC cin clo clen ⊢
          have e2 : strL (c1 ++ [here]) = strL c1 ++ [V.str here] := by
            unfold strL
            rw [List.map_append]
            rfl
          rw [e2] at hC ⊢
          refine iteT_ (by cases strL c1 <;> rfl) ?_
          have mu0 : (match G r, G co with
            | some (.dK kvs), some (.lst xs) => 2 * (24 - kvs.length) + xs.length
            | _, _ => 0) = 2 * (24 - rs.length) + (c1.length + 1) := by
            rw [hR, hC]
            show 2 * (24 - (dReach rs).length) + (strL c1 ++ [V.str here]).length = _
            unfold dReach strL
            rw [List.length_map, List.length_append, List.length_map]
            rfl
          rw [mu0]
          clear mu0
          refine ⟨_, rfl, .inl ⟨rfl, _, SqL.of hC⟩, co, _, V.str here, rfl, rfl, hC, ?_, ?_⟩
          · rw [List.length_append]
            exact List.getElem?_concat_length
          rw [List.dropLast_concat]
          obtain ⟨x, xm, ex⟩ := List.mem_map.mp (rin here (cin here (List.mem_append_right _ List.mem_cons_self)))
          obtain ⟨i, ei⟩ := List.getElem?_of_mem xm
          have il : i < las.length := by
            rw [li.len]
            exact (List.getElem?_eq_some_iff.mp ei).1
          obtain ⟨la, ela⟩ : ∃ la, las[i]? = some la := ⟨_, List.getElem?_eq_getElem il⟩
          have sG1 : Same H (upd G co (.lst (strL c1))) := Same.past sG fco
          have hR1 : upd G co (.lst (strL c1)) r = some (.dK (dReach rs)) := by
            rw [upd_ne nrc]
            exact hR
          have hC1 : upd G co (.lst (strL c1)) co = some (.lst (strL c1)) := upd_same
          generalize upd G co (.lst (strL c1)) = G1 at sG1 hR1 hC1
          have dg : DGet G1 on (.str here) (some (.ref la)) := by
            rw [← (ex ▸ valV_lead nok.nd ei ela : valV (dLead nm las) (Sum.inr here) = some (.ref la))]
            exact DGet.k (k := Sum.inr here) (sG1 _ _ li.hd)
          refine ⟨_, rfl, _, rfl, on, _, rfl, dg, la, rfl, ⟨_, SqL.of (sG1 _ _ (li.at_ i x la ei ela))⟩, ?_⟩
          refine for_list (xs := strL (L x)) (fun j σ G => ∃ (w5 : Option V) (rs1 cs1 : List Str), σ = [some (.ref st), some (.ref on), some (.ref r), some (.ref co), some (.str here), w5] ∧ G r = some (.dK (dReach rs1)) ∧ G co = some (.lst (strL cs1)) ∧ Same H G ∧ rs1.Nodup ∧ (∀ s ∈ rs1, s ∈ nm.map Nm.name) ∧ (∀ s ∈ cs1, s ∈ rs1) ∧ (∀ s ∈ rs, s ∈ rs1) ∧ (∀ s ∈ (L x).take j, s ∈ rs1) ∧ (∀ x ∈ nm, x.name ∈ rs1 → x.name ∉ cs1 → x.name ≠ here → ∀ s ∈ L x, s ∈ rs1) ∧ (∀ s ∈ rs1, RL nm L starts s) ∧ 2 * (24 - rs1.length) + cs1.length ≤ 2 * (24 - rs.length) + c1.length)
            ⟨_, rs, c1, rfl, hR1, hC1, sG1, rnd, rin, fun s h => cin s (List.mem_append_left _ h), fun s h => h, (fun s h => by rw [List.take_zero] at h; cases h), fun y hy h1 h2 h3 => clo y hy h1 (fun z => (List.mem_append.mp z).elim h2 (fun z => h3 (List.mem_singleton.mp z))), rl0, Nat.le_refl _⟩
            (fun j σ G _ e => by obtain ⟨_, _, _, _, _, _, sm, _⟩ := e; exact SqL.of (sm _ _ (li.at_ i x la ei ela))) ?_ ?_
          · rintro j v σ G2 ev ⟨w5, rs1, cs1, rfl, hR2, hC2, sG2, rnd2, rin2, cin2, sub2, tk2, clo2, clen2, mu2⟩
            have ev' := ev
            unfold strL at ev'
            rw [List.getElem?_map] at ev'
            obtain ⟨n, en, e0⟩ := Option.map_eq_some_iff.mp ev'
            clear ev' ev
            subst e0
            have nin : n ∈ nm.map Nm.name := lin x xm n (List.mem_of_getElem? en)
            have tks : ∀ rs' : List Str, (∀ s ∈ rs1, s ∈ rs') → n ∈ rs' → ∀ s ∈ (L x).take (j + 1), s ∈ rs' := fun rs' h1 h2 s hs => by
              rw [List.take_succ, en] at hs
              rcases List.mem_append.mp hs with hs | hs
              · exact h1 s (tk2 s hs)
              · rw [List.mem_singleton.mp hs]
                exact h2
            have dg2 : DGet G2 r (.str n) (valV (dReach rs1) (Sum.inr n)) := DGet.k (k := Sum.inr n) hR2
            have rl : rs1.length ≤ 24 := Nat.le_trans (nodup_len rnd2 rin2) few
            refine ⟨_, rfl, _, rfl, r, _, rfl, dg2, _, rfl, ?_⟩
            by_cases z : n ∈ rs1
            · refine iteF_ (by rw [reach_in, decide_eq_true z]; rfl) ?_
              exact ⟨_, rs1, cs1, rfl, hR2, hC2, sG2, rnd2, rin2, cin2, sub2, tks rs1 (fun s h => h) z, clo2, clen2, mu2⟩
            · refine iteT_ (by rw [reach_in, decide_eq_false z]; rfl) ?_
              have rl1 : (n :: rs1).length ≤ 24 := Nat.le_trans (nodup_len (List.nodup_cons.mpr ⟨z, rnd2⟩) (fun s h => by
                rcases List.mem_cons.mp h with h | h
                · rw [h]; exact nin
                · exact rin2 s h)) few
              rw [List.length_cons] at rl1
              refine ⟨_, rfl, _, rfl, r, _, rfl, DPut.k (k := Sum.inr n) hR2 ?_, ?_⟩
              · unfold dReach
                rw [List.length_map]
                exact Nat.lt_of_le_of_lt rl (by decide)
              rw [reach_put z]
              have hC3 : upd G2 r (.dK (dReach (rs1 ++ [n]))) co = some (.lst (strL cs1)) := by
                rw [upd_ne nrc.symm]
                exact hC2
              refine ⟨_, rfl, .inl ⟨rfl, _, SqL.of hC3⟩, _, rfl, co, _, _, rfl, rfl, hC3, ?_, ?_⟩
              · unfold strL
                rw [List.length_map]
                have := clen
                rw [List.length_append] at this
                have : cs1.length ≤ 72 := by
                  show _ ≤ _
                  omega
                exact Nat.lt_of_le_of_lt this (by decide)
              refine ⟨_, rs1 ++ [n], cs1 ++ [n], rfl, ?_, ?_, Same.past (Same.past sG2 hr0) fco, ?_, ?_, ?_, ?_, ?_, ?_, ?_, ?_⟩
              · rw [upd_ne nrc]
                exact upd_same
              · rw [upd_same]
                unfold strL
                rw [List.map_append]
                rfl
              · rw [List.nodup_append]
                exact ⟨rnd2, List.nodup_cons.mpr ⟨List.not_mem_nil, List.nodup_nil⟩, fun a ha b hb q => z (by rw [← List.mem_singleton.mp hb, ← q]; exact ha)⟩
              · intro s h
                rcases List.mem_append.mp h with h | h
                · exact rin2 s h
                · rw [List.mem_singleton.mp h]; exact nin
              · intro s h
                rcases List.mem_append.mp h with h | h
                · exact List.mem_append_left _ (cin2 s h)
                · exact List.mem_append_right _ h
              · exact fun s h => List.mem_append_left _ (sub2 s h)
              · exact tks _ (fun s h => List.mem_append_left _ h) (List.mem_append_right _ List.mem_cons_self)
              · intro y hy h1 h2 h3 s hs
                rcases List.mem_append.mp h1 with h1 | h1
                · exact List.mem_append_left _ (clo2 y hy h1 (fun q => h2 (List.mem_append_left _ q)) h3 s hs)
                · exact absurd (List.mem_append_right _ h1) h2
              · intro s h
                rcases List.mem_append.mp h with h | h
                · exact clen2 s h
                · rw [List.mem_singleton.mp h]
                  exact .step xm (by rw [ex]; exact rl0 here (cin here (List.mem_append_right _ List.mem_cons_self))) (List.mem_of_getElem? en)
              · rw [List.length_append, List.length_append]
                show 2 * (24 - (rs1.length + 1)) + (cs1.length + 1) ≤ _
                omega
          · rintro σ G2 ⟨w5, rs1, cs1, rfl, hR2, hC2, sG2, rnd2, rin2, cin2, sub2, tk2, clo2, clen2, mu2⟩
            have ll : (strL (L x)).length = (L x).length := by
              unfold strL
              rw [List.length_map]
            rw [ll, List.take_length] at tk2
            refine ⟨⟨_, _, rs1, cs1, rfl, hR2, hC2, sG2, rnd2, rin2, cin2, fun s h => sub2 s (stin s h), fun y hy h1 h2 s hs => ?_, ?_, clen2⟩, ?_⟩
            · by_cases z : y.name = here
              · have : y = x := nm_inj nok.nd hy xm (z.trans ex.symm)
                rw [this] at hs
                exact tk2 s hs
              · exact clo2 y hy h1 h2 z s hs
            · have := clen
              rw [List.length_append] at this
              have : c1.length + 1 = c1.length + [here].length := rfl
              omega
            · rw [hR2, hC2]
              show 2 * (24 - (dReach rs1).length) + (strL cs1).length < _
              unfold dReach strL
              rw [List.length_map, List.length_map]
              omega
      · rintro σ G Q1 Q2 hq ⟨v, e1, k, e2, e3⟩
        exact ⟨v, e1, k, e2, hq _ _ e3⟩
end
end Sw
namespace Sw
open PySem PySem.Spec PyProof.Rows L2
/-! ### all is fed -/
def goN (ws : List Wr) (n : Nat) : Str := match ws[n]? with
  | some w => w.goal
  | none => ""
theorem goN_at {ws : List Wr} {n : Nat} {w : Wr} (h : ws[n]? = some w) : goN ws n = w.goal := by
  unfold goN
  rw [h]
/-- where the wires from a name lead to -/
def onN (ws : List Wr) (s : Str) : List Str := (outN ws s ws.length).map (goN ws)
theorem onN_of {ws : List Wr} {w : Wr} (h : w ∈ ws) : w.goal ∈ onN ws w.src := by
  obtain ⟨i, ei⟩ := List.getElem?_of_mem h
  unfold onN
  rw [List.mem_map]
  exact ⟨i, outN_mem.mpr ⟨(List.getElem?_eq_some_iff.mp ei).1, by rw [ei]; rfl⟩, goN_at ei⟩
theorem onN_in {ws : List Wr} {s g : Str} (h : g ∈ onN ws s) : ∃ w ∈ ws, w.src = s ∧ w.goal = g := by
  unfold onN at h
  obtain ⟨n, hn, e⟩ := List.mem_map.mp h
  obtain ⟨_, h2⟩ := outN_mem.mp hn
  obtain ⟨w, ew, es⟩ := Option.map_eq_some_iff.mp h2
  exact ⟨w, List.mem_of_getElem? ew, es, by rw [← e, goN_at ew]⟩
def startN (nm : List Nm) : List Str := (nm.filter fun x => x.inf.inl).map Nm.name
theorem reach_all {nm : List Nm} {ws : List Wr} (ok : WvOk nm ws) {rs : List Str} (h1 : ∀ s ∈ startN nm, s ∈ rs) (h2 : ∀ x ∈ nm, x.name ∈ rs → ∀ s ∈ onN ws x.name, s ∈ rs) : ∀ x ∈ nm, x.name ∈ rs := by
  have : ∀ s, Reach nm ws s → s ∈ rs := fun s r => by
    induction r with
    | inl h i => exact h1 _ (List.mem_map.mpr ⟨_, List.mem_filter.mpr ⟨h, i⟩, rfl⟩)
    | step h r ih =>
      obtain ⟨y, hy, ey, _⟩ := ok.src _ h
      exact h2 y hy (by rw [ey]; exact ih) _ (by rw [ey]; exact onN_of h)
  exact fun x hx => this _ (ok.reach x hx)

abbrev scUnfed1 : Scope := { kind := .function, names := [(Str.ofString ".0", .local), (Str.ofString "name", .local), (Str.ofString "leaving", .cell), (Str.ofString "wires", .cell)], isGenerator := false, isCoroutine := false }
def spUnfed {K : PySem.W.Frag} {CN CO CI : Addr} (S : Sorts K CN CO CI) : Sp := fun vs H Q _ => ∃ (H0 : Hp) (d wl dl : Addr) (nm : List Nm) (las : List Addr) (ws : List Wr), vs = [.ref d, .ref wl, .ref dl] ∧ dl ≠ d ∧ H d = some (.dK (dNamed nm)) ∧ WiresAt K H wl ws ∧ Lists H0 H dl nm las (fun x => outL ws x.name ws.length) ∧ WvOk nm ws ∧ Nodes S nm H ∧ ∀ H', Same H H' → Q .non H'
section
variable {P : Program} {w : World} {K : PySem.W.Frag} {mg : Str → Option Value} {base : Heap} {f f1 f2 f3 f4 f5 f6 f7 f8 f9 C CN CO CI CW : Addr} {fd fd1 fd2 fd3 fd4 fd5 fd6 fd7 fd8 fd9 : FuncData}
abbrev nRefuseUnfed : List Str := ["named", "wires", "leaving", "onward", "reached", "name", "number"]
theorem scRefuseUnfed : FnScope nRefuseUnfed ["named", "wires", "leaving"] (defScope sRefuseUnfed) := ⟨rfl, rfl, rfl, by decide +kernel, rfl, by decide +kernel, by decide +kernel⟩
theorem ok_unfed (S : Sorts K CN CO CI) (F : FnP K "refuse_unfed" sRefuseUnfed f fd) (GRe : FnOk P w K mg base CX0 1 f1 fd1 ["starts", "onward"] spReached) (gRe : mg "all_reached" = some (.ref f1)) (kRe : PySem.W.keepIn K (.ref f1) = true) (bRe : Binds K fd1 ["starts", "onward"] []) (gI : mg "Inlet" = some (.ref CI)) (gIs : mg "isinstance" = none) : FnOk P w K mg base CX0 2 f fd ["named", "wires", "leaving"] (spUnfed S) := by
  refine F.ok scRefuseUnfed (fun vs H Q E h => ?_) (fun cdv A outer s H vs Q E hr h => ?_)
  · obtain ⟨H0, d, wl, dl, nm, las, ws, rfl, _⟩ := h
    rfl
  · obtain ⟨H0, d, wl, dl, nm, las, ws, rfl, ndl, hd, ⟨ps, hwl, al⟩, li, ok, nodes, kk⟩ := h
    have hu := hu_of hr
    have nd := scRefuseUnfed.nd
    have few := ok.nms.few
    refine ⟨_, PSs.nox (pss_cons (ps_lock (ps_setDc (i := 3) (own := [("name", 5)]) (g := (gName 5)) (tt := tYes) rfl nd rfl rfl (swd_true rfl rfl rfl rfl) (pi_keys (pv 0)) (blkOk_by (N := nRefuseUnfed) (sc := defScope sRefuseUnfed) (by decide +kernel))
        (fun _ _ _ _ _ => (pg_name (i := 5) nd rfl (Or.inl rfl))) (fun _ _ _ _ _ => pts_nil) (fun _ _ _ _ _ => (pv 5)) (fun _ _ _ _ _ => (pe_lc (own := [("number", 6)]) (g := (gName 6)) (tt := tYes) rfl nd (pi_listK (K := K) rfl (pe_dget hu (pv 2) (pv 5) (fun _ _ => rfl))) (blkOk_by (N := nRefuseUnfed) (sc := scUnfed1) (by decide +kernel))
        (fun _ _ _ _ _ => (pg_name (i := 6) nd rfl (Or.inl rfl))) (fun _ _ _ _ _ => pts_nil) (fun _ _ _ _ _ => (pe_ix (ix_tupK (K := K) rfl) (pe_ix (ix_listK (K := K) rfl) (pv 1) (pv 6) (fun _ _ => rfl)) pe_int (fun _ _ => rfl)))))))
      (pss_cons (ps_set (i := 4) nd rfl (Or.inl rfl) (pe_call GRe hr rfl gRe kRe bRe .nil pass0 (pa_cons (pe_lock (pe_lc (own := [("name", 5)]) (g := (gName 5)) (tt := _) rfl nd (pi_keys (pv 0)) (blkOk_by (N := nRefuseUnfed) (sc := defScope sRefuseUnfed) (by decide +kernel))
        (fun _ _ _ _ _ => (pg_name (i := 5) nd rfl (Or.inl rfl))) (fun _ _ _ _ _ => (pts_one (pt_val (pe_callB (call_isiG (K := K) rfl) (by rfl) gIs boot_isinstance (pa_cons (pe_dget hu (pv 0) (pv 5) (fun _ _ => rfl)) (pa_cons (pe_glob (v := .ref CI) rfl gI rfl) pa_nil)))))) (fun _ _ _ _ _ => (pv 5)))) (pa_cons (pv 3) pa_nil))))
      (pss_one (ps_lock (ps_for PassesOwn.never rfl (pi_keys (pv 0)) (pg_name (i := 5) nd rfl (Or.inl rfl))
      (pss_one (ps_if (pt_cmp (pc_dnotin hu (pv 5) (pv 4))) pss_never pss_nil))))))), ?_⟩
    -- where each name leads to
    refine ⟨d, _, hd, trivial, fun od => ?_⟩
    have hL : (upd H d (.frz od (.dK (dNamed nm)))) d = some (.frz od (.dK (dNamed nm))) := upd_same
    have freeL : ∀ {a : Addr}, (upd H d (.frz od (.dK (dNamed nm)))) a = none → H a = none := fun {a} e => by
      by_cases z : a = d
      · rw [z, hL] at e
        cases e
      · rw [upd_ne z] at e
        exact e
    have wlL : (upd H d (.frz od (.dK (dNamed nm)))) wl = some (.lst ps) := lock_ne hd hwl (fun _ z => by cases z)
    have alL : Al (WireAt K (upd H d (.frz od (.dK (dNamed nm))))) ps ws := al.imp fun p x ⟨q, e, h⟩ => ⟨q, e, lock_tup hd h⟩
    have atL : ∀ (i : Nat) (x : Nm) (la : Addr), nm[i]? = some x → las[i]? = some la → (upd H d (.frz od (.dK (dNamed nm)))) la = some (.lst (outL ws x.name ws.length)) := fun i x la e1 e2 => lock_ne hd (li.at_ i x la e1 e2) (fun _ z => by cases z)
    have dlL : (upd H d (.frz od (.dK (dNamed nm)))) dl = some (.dK (dLead nm las)) := by
      rw [upd_ne ndl]
      exact li.hd
    generalize eHL : upd H d (.frz od (.dK (dNamed nm))) = HL at hL freeL wlL alL atL dlL
    refine ⟨_, rfl, d, od, rfl, .inl ⟨_, hL, fun D hD => ?_⟩⟩
    have nDd : D ≠ d := (ne_of_none hL hD).symm
    refine dc_it (walk_keys (d := d) (o := od) (kvs := dNamed nm)) (fun j H' => ∃ las, Lists HL H' D (nm.take j) las (fun x => strL (onN ws x.name)) ∧ Same HL H') ⟨[], by rw [List.take_zero]; exact Lists.none upd_same, Same.past (Same.refl _) hD⟩ (fun j H' _ e => by obtain ⟨_, _, sm⟩ := e; exact sm _ _ hL) (fun j v H' H'' hj e y => ?_) (fun H' e => ?_)
    · obtain ⟨las2, li2, sm⟩ := e
      obtain ⟨rfl, k, v', ek, rfl⟩ := y
      obtain ⟨x, ex, rfl, rfl⟩ := dNamed_get ek
      have xm : x ∈ nm := List.mem_of_getElem? ex
      have jl : j < las.length := by
        rw [li.len]
        exact (List.getElem?_eq_some_iff.mp ex).1
      obtain ⟨la, ela⟩ : ∃ la, las[j]? = some la := ⟨_, List.getElem?_eq_getElem jl⟩
      refine ⟨rfl, ?_⟩
      refine yes_ite ?_
      refine ⟨_, rfl, _, rfl, _, rfl, dl, _, rfl, .inl ⟨_, Sum.inr x.name, .inl (sm _ _ dlL), rfl, (valV_lead ok.nms.nd ex ela).symm⟩, la, rfl, ⟨_, SqL.of (sm _ _ (atL j x la ex ela))⟩, fun G hG => ?_⟩
      have nDG : D ≠ G := ne_of_none li2.hd hG
      refine lc_list (xs := outL ws x.name ws.length) (fun i G1 => G1 G = some (.lst (strL ((onN ws x.name).take i))) ∧ Same H'' G1) ⟨by rw [List.take_zero]; exact upd_same, Same.past (Same.refl _) hG⟩ (fun i G1 _ e => SqL.of (e.2 _ _ (sm _ _ (atL j x la ex ela)))) (fun i v G1 ev e => ?_) (fun G1 e => ?_)
      · obtain ⟨hG1, s1⟩ := e
        unfold outL at ev
        rw [List.getElem?_map] at ev
        obtain ⟨n, en, e0⟩ := Option.map_eq_some_iff.mp ev
        clear ev
        subst e0
        obtain ⟨nl, h2⟩ := outN_mem.mp (List.mem_of_getElem? en)
        obtain ⟨wr, ew, es⟩ := Option.map_eq_some_iff.mp h2
        have pl : n < ps.length := by
          rw [alL.len]
          exact nl
        obtain ⟨wr', ew', q, eq, hq⟩ := alL.get (List.getElem?_eq_getElem pl)
        rw [ew] at ew'
        cases ew'
        refine ⟨rfl, ?_⟩
        refine yes_ite ?_
        have il : i < (outN ws x.name ws.length).length := (List.getElem?_eq_some_iff.mp en).1
        have eg : (onN ws x.name)[i]? = some wr.goal := by
          unfold onN
          rw [List.getElem?_map, en, Option.map_some, goN_at ew]
        refine ⟨_, rfl, _, rfl, wl, _, _, _, rfl, rfl, SqL.of (s1 _ _ (sm _ _ wlL)), atI_nat (List.getElem?_eq_getElem pl), q, _, _, _, eq, rfl, Same.tup (sm.trans s1) hq, atI_nat (j := 1) rfl, _, hG1, ?_, ?_, Same.past s1 hG⟩
        · unfold strL
          rw [List.length_map, List.length_take]
          have := outN_len ws x.name ws.length
          have := ok.few
          exact Nat.lt_of_le_of_lt (show _ ≤ 48 by omega) (by decide)
        · rw [upd_same, List.take_succ, eg]
          unfold strL
          rw [List.map_append]
          rfl
      · obtain ⟨hG1, s1⟩ := e
        have ll : (outL ws x.name ws.length).length = (onN ws x.name).length := by
          unfold outL onN
          rw [List.length_map, List.length_map]
        rw [ll, List.take_length] at hG1
        have nk : nm.take (j + 1) = nm.take j ++ [x] := by
          rw [List.take_succ, ex]
          rfl
        refine ⟨_, Sum.inr x.name, rfl, s1 _ _ li2.hd, ?_, las2 ++ [G], ?_, Same.past (sm.trans s1) hD⟩
        · rw [dLead_len li2.len, List.length_take]
          exact Nat.lt_of_le_of_lt (show _ ≤ 24 by omega) (by decide)
        rw [putK_new (dLead_no (name_ahead ok.nms.nd ex)), nk]
        exact li2.snoc s1 (sm.free hG) hG hG1
    · obtain ⟨las2, li2, sm⟩ := e
      have dn : (dNamed nm).length = nm.length := by
        unfold dNamed
        rw [List.length_map]
      rw [dn, List.take_length] at li2
      refine ⟨sm _ _ hL, ?_⟩
      have u1 : Same H (upd H' d (.dK (dNamed nm))) := unlock hd (eHL ▸ sm)
      have li1 : Lists H (upd H' d (.dK (dNamed nm))) D nm las2 (fun x => strL (onN ws x.name)) := by
        refine li2.other (fun a => freeL) (by rw [upd_ne nDd]; exact li2.hd) fun i x a ex ea => ?_
        rw [upd_ne (fun z => by
          have := (li2.new a (List.mem_of_getElem? ea)).1
          rw [z, hL] at this
          cases this)]
        exact li2.at_ i x a ex ea
      have fD : H D = none := freeL hD
      generalize upd H' d (.dK (dNamed nm)) = H1 at u1 li1
      clear li2 sm
      -- the names of the inlets
      have hd1 := u1 _ _ hd
      have n1 := nodes.keep u1
      refine ⟨d, _, hd1, trivial, fun oe => ?_⟩
      have hM : (upd H1 d (.frz oe (.dK (dNamed nm)))) d = some (.frz oe (.dK (dNamed nm))) := upd_same
      have nodesM : ∀ x ∈ nm, NodeIn S x.adr x.inf (upd H1 d (.frz oe (.dK (dNamed nm)))) := fun x hx => (n1 x hx).dict hd1
      have freeM : ∀ {a : Addr}, (upd H1 d (.frz oe (.dK (dNamed nm)))) a = none → H1 a = none := fun {a} e => by
        by_cases z : a = d
        · rw [z, hM] at e
          cases e
        · rw [upd_ne z] at e
          exact e
      generalize eHM : upd H1 d (.frz oe (.dK (dNamed nm))) = HM at hM nodesM freeM
      refine ⟨_, rfl, d, oe, rfl, .inl ⟨_, hM, fun st hst => ?_⟩⟩
      have nsd : st ≠ d := (ne_of_none hM hst).symm
      refine lc_it (walk_keys (d := d) (o := oe) (kvs := dNamed nm)) (fun j H' => H' st = some (.lst (strL (startN (nm.take j)))) ∧ Same HM H') ⟨by rw [List.take_zero]; exact upd_same, Same.past (Same.refl _) hst⟩ (fun j H' _ e => e.2 _ _ hM) (fun j v H' H'' hj e y => ?_) (fun H2 e => ?_)
      · obtain ⟨hs1, sm⟩ := e
        obtain ⟨rfl, k, v', ek, rfl⟩ := y
        obtain ⟨x, ex, rfl, rfl⟩ := dNamed_get ek
        have xm : x ∈ nm := List.mem_of_getElem? ex
        obtain ⟨B, hB, hat, _, hinl⟩ := (nodesM x xm).keep sm
        obtain ⟨dx, fs, hin, _⟩ := S.ins B _ _ _ hat
        have isI := S.isI B hB
        rw [hinl] at isI
        have nk : startN (nm.take (j + 1)) = startN (nm.take j) ++ (if x.inf.inl = true then [x.name] else []) := by
          rw [List.take_succ, ex]
          unfold startN
          rw [List.filter_append, List.map_append]
          congr 1
          by_cases z : x.inf.inl = true
          · rw [if_pos z]
            show (List.filter _ [x]).map _ = _
            rw [List.filter_cons, if_pos z]
            rfl
          · rw [if_neg z]
            show (List.filter _ [x]).map _ = _
            rw [List.filter_cons, if_neg z]
            rfl
        refine ⟨rfl, ?_⟩
        refine ⟨_, rfl, _, rfl, d, _, rfl, .inl ⟨_, Sum.inr x.name, .inr ⟨oe, sm _ _ hM⟩, rfl, (valV_named ok.nms.nd xm).symm⟩, _, _, _, _, x.inf.inl, rfl, ClsV.own _, (S.isN B hB).ty (S.cls B hB) hin, isI, _, rfl, ?_⟩
        cases z : x.inf.inl with
        | true =>
          rw [z, if_pos rfl] at nk
          refine iteT ?_
          refine ⟨_, rfl, _, hs1, ?_, ?_, Same.past sm hst⟩
          · unfold strL startN
            rw [List.length_map, List.length_map]
            have h1 := List.length_filter_le (fun x : Nm => x.inf.inl) (nm.take j)
            rw [List.length_take] at h1
            exact Nat.lt_of_le_of_lt (show _ ≤ 24 by omega) (by decide)
          · rw [nk, upd_same]
            unfold strL
            rw [List.map_append]
            rfl
        | false =>
          rw [z, if_neg (by decide), List.append_nil] at nk
          refine iteF ?_
          rw [nk]
          exact ⟨hs1, sm⟩
      · obtain ⟨hs1, sm⟩ := e
        rw [dn, List.take_length] at hs1
        refine ⟨sm _ _ hM, ?_⟩
        have u2 : Same H1 (upd H2 d (.dK (dNamed nm))) := unlock hd1 (eHM ▸ sm)
        have hst2 : upd H2 d (.dK (dNamed nm)) st = some (.lst (strL (startN nm))) := by
          rw [upd_ne nsd]
          exact hs1
        generalize upd H2 d (.dK (dNamed nm)) = H3 at u2 hst2
        have snm : ∀ s ∈ startN nm, s ∈ nm.map Nm.name := fun s hs => by
          obtain ⟨y, hy, ey⟩ := List.mem_map.mp hs
          exact List.mem_map.mpr ⟨y, (List.mem_filter.mp hy).1, ey⟩
        refine ⟨_, rfl, H, st, D, startN nm, nm, las2, fun x => onN ws x.name, rfl, hst2, ?_, li1.keep u2, ok.nms, snm, fun x hx s hs => ?_, ?_⟩
        · have h0 : (startN nm).Nodup := List.Pairwise.sublist (List.Sublist.map _ List.filter_sublist) ok.nms.nd
          have := nodup_len h0 snm
          rw [List.length_map] at this
          have := ok.nms.few
          omega
        · obtain ⟨w', hw', _, e2⟩ := onN_in hs
          obtain ⟨y, hy, ey, _⟩ := ok.goal w' hw'
          exact List.mem_map.mpr ⟨y, hy, ey.trans e2⟩
        intro r rs H4 s4 fr hr4 c1 c2 c3 _
        have all := reach_all ok c1 c2
        have u4 := u1.trans (u2.trans s4)
        have hd4 := u4 _ _ hd
        -- none is left out
        refine ⟨d, _, hd4, trivial, fun og => ?_⟩
        have hG : (upd H4 d (.frz og (.dK (dNamed nm)))) d = some (.frz og (.dK (dNamed nm))) := upd_same
        have nrd : r ≠ d := fun z => by
          rw [z, (u1.trans u2) _ _ hd] at fr
          cases fr
        have rG : (upd H4 d (.frz og (.dK (dNamed nm)))) r = some (.dK (dReach rs)) := by
          rw [upd_ne nrd]
          exact hr4
        generalize eHG : upd H4 d (.frz og (.dK (dNamed nm))) = HG at hG rG
        refine ⟨_, rfl, d, og, rfl, .inl ⟨_, hG, ?_⟩⟩
        refine for_it (walk_keys (d := d) (o := og) (kvs := dNamed nm)) (fun j σ G => ∃ w5 : Option V, σ = [some (.ref d), some (.ref wl), some (.ref dl), some (.ref D), some (.ref r), w5, none] ∧ Same HG G) ⟨_, rfl, Same.refl _⟩ (fun j σ G _ e => by obtain ⟨_, _, sm⟩ := e; exact sm _ _ hG) ?_ ?_
        · rintro j v σ G G' hj ⟨w5, rfl, sG⟩ ⟨rfl, k, v', ek, rfl⟩
          obtain ⟨x, ex, rfl, rfl⟩ := dNamed_get ek
          have xm : x ∈ nm := List.mem_of_getElem? ex
          refine ⟨_, rfl, _, rfl, r, _, rfl, DGet.k (k := Sum.inr x.name) (sG _ _ rG), _, rfl, ?_⟩
          refine iteF_ (by rw [reach_in, decide_eq_true (all x xm)]; rfl) ?_
          exact ⟨_, rfl, sG⟩
        · rintro σ G ⟨w5, rfl, sG⟩
          exact ⟨sG _ _ hG, kk _ (u4.trans (unlock hd4 (eHG ▸ sG)))⟩
end
end Sw
namespace Sw
open PySem PySem.Spec PyProof.Rows L2
/-! ### a weave, as it stands -/
/-- the heap without one place -/
def wo (p : Addr) (H : Hp) : Hp := fun a => if a = p then none else H a
theorem wo_self {p : Addr} {H : Hp} : wo p H p = none := by
  unfold wo
  rw [if_pos rfl]
theorem wo_ne {p a : Addr} {H : Hp} (h : a ≠ p) : wo p H a = H a := by
  unfold wo
  rw [if_neg h]
theorem wo_same {p : Addr} {H : Hp} : Same (wo p H) H := fun b o h => by
  by_cases z : b = p
  · rw [z, wo_self] at h
    cases h
  · rw [wo_ne z] at h
    exact h
theorem wo_upd {p : Addr} {H : Hp} {o : HO} : Same (wo p H) (L2.upd H p o) := Same.past wo_same wo_self
theorem wo_mono {p : Addr} {H H1 : Hp} (s : Same H H1) : Same (wo p H) (wo p H1) := fun b o h => by
  by_cases z : b = p
  · rw [z, wo_self] at h
    cases h
  · rw [wo_ne z] at h ⊢
    exact s _ _ h
theorem Lists.wo {H0 H : Hp} {d p : Addr} {nm : List Nm} {las : List Addr} {L : Nm → List V} (li : Lists H0 H d nm las L) {o : HO} (hp : H0 p = some o) (hd : H0 d = Option.none) : Lists H0 (wo p H) d nm las L := ⟨by rw [wo_ne (fun z => by rw [z, hp] at hd; cases hd)]; exact li.hd, li.len, li.nd, li.new, fun i x la e1 e2 => by
  rw [wo_ne (fun z => by
    have := (li.new la (List.mem_of_getElem? e2)).1
    rw [z, hp] at this
    cases this)]
  exact li.at_ i x la e1 e2⟩
theorem same_wo {p : Addr} {H0 H : Hp} (s : Same H0 H) (h : H0 p = none) : Same H0 (wo p H) := fun b o e => by
  by_cases z : b = p
  · rw [z, h] at e
    cases e
  · rw [wo_ne z]
    exact s _ _ e
theorem wo_tup {K : PySem.W.Frag} {p q C dx : Addr} {H : Hp} {fs : List (Str × V)} {xs : List V} (hp : H p = some (.ins C dx fs)) (h : SqT K H q xs) : SqT K (wo p H) q xs := by
  rcases h with (h | ⟨o, h⟩) | h
  · exact .inl (.inl (by rw [wo_ne (fun z => by rw [z, hp] at h; cases h)]; exact h))
  · exact .inl (.inr ⟨o, by rw [wo_ne (fun z => by rw [z, hp] at h; cases h)]; exact h⟩)
  · exact .inr h
theorem Lists.any {H0 H : Hp} {d : Addr} {nm : List Nm} {las : List Addr} {L : Nm → List V} (li : Lists H0 H d nm las L) : Lists (fun _ => Option.none) H d nm las L := ⟨li.hd, li.len, li.nd, fun a h => ⟨rfl, (li.new a h).2⟩, li.at_⟩
theorem putW1 (d : V) : putF "named" d [] = ([("named", d)] : List (Str × V)) := rfl
theorem putW2 (d e : V) : putF "leading" e ([("named", d)] : List (Str × V)) = ([("named", d), ("leading", e)] : List (Str × V)) := by
  unfold putF
  rw [if_neg (by decide +kernel)]
  rfl
theorem putW3 (d e f : V) : putF "laid" f ([("named", d), ("leading", e)] : List (Str × V)) = ([("named", d), ("leading", e), ("laid", f)] : List (Str × V)) := by
  unfold putF
  rw [if_neg (by decide +kernel)]
  unfold putF
  rw [if_neg (by decide +kernel)]
  rfl
theorem putW4 (d e f g : V) : putF "leaving" g ([("named", d), ("leading", e), ("laid", f)] : List (Str × V)) = ([("named", d), ("leading", e), ("laid", f), ("leaving", g)] : List (Str × V)) := by
  unfold putF
  rw [if_neg (by decide +kernel)]
  unfold putF
  rw [if_neg (by decide +kernel)]
  unfold putF
  rw [if_neg (by decide +kernel)]
  rfl
structure WvF (K : PySem.W.Frag) {CN CO CI : Addr} (S : Sorts K CN CO CI) (H : Hp) (d dl ld dv : Addr) (nm : List Nm) (ws : List Wr) : Prop where
  named : H d = some (.dK (dNamed nm))
  lead : ∃ las, Lists (fun _ => none) H dl nm las (fun x => leadL ws x.name x.inf.ts.length)
  laid : WiresAt K H ld ws
  leav : ∃ las, Lists (fun _ => none) H dv nm las (fun x => outL ws x.name ws.length)
  nodes : Nodes S nm H
def wvF (d dl ld dv : Addr) : List (Str × V) := [("named", .ref d), ("leading", .ref dl), ("laid", .ref ld), ("leaving", .ref dv)]
def WvAt (K : PySem.W.Frag) {CN CO CI : Addr} (S : Sorts K CN CO CI) (CW : Addr) (H : Hp) (p : Addr) (nm : List Nm) (ws : List Wr) : Prop := ∃ dx d dl ld dv, H p = some (.ins CW dx (wvF d dl ld dv)) ∧ WvF K S H d dl ld dv nm ws
theorem Lists.base {G0 H0 H : Hp} {d : Addr} {nm : List Nm} {las : List Addr} {L : Nm → List V} (li : Lists G0 H d nm las L) (s : Same H0 G0) : Lists H0 H d nm las L := ⟨li.hd, li.len, li.nd, fun a h => ⟨s.free (li.new a h).1, (li.new a h).2⟩, li.at_⟩
/-- the places of a weave are new ones -/
def WvAtN (K : PySem.W.Frag) {CN CO CI : Addr} (S : Sorts K CN CO CI) (CW : Addr) (H0 H : Hp) (p : Addr) (nm : List Nm) (ws : List Wr) : Prop := ∃ dx d dl ld dv, H p = some (.ins CW dx (wvF d dl ld dv)) ∧ WvF K S H d dl ld dv nm ws ∧ H0 d = none ∧ H0 dl = none ∧ H0 ld = none ∧ H0 dv = none ∧
  (∃ las, Lists H0 H dl nm las (fun x => leadL ws x.name x.inf.ts.length)) ∧ (∃ las, Lists H0 H dv nm las (fun x => outL ws x.name ws.length))
theorem WvAtN.at {K : PySem.W.Frag} {CN CO CI CW : Addr} {S : Sorts K CN CO CI} {H0 H : Hp} {p : Addr} {nm : List Nm} {ws : List Wr} (h : WvAtN K S CW H0 H p nm ws) : WvAt K S CW H p nm ws := by
  obtain ⟨dx, d, dl, ld, dv, hp, h, _⟩ := h
  exact ⟨dx, d, dl, ld, dv, hp, h⟩
def spWvInit (K : PySem.W.Frag) {CN CO CI : Addr} (S : Sorts K CN CO CI) (CW : Addr) : Sp := fun vs H Q _ => ∃ (H0 : Hp) (p dx nl wl : Addr) (nm : List Nm) (ws : List Wr), vs = [.ref p, .ref nl, .ref wl] ∧ Same H0 H ∧ H0 p = none ∧ H p = some (.ins CW dx []) ∧ PairsAt K H0 nl nm ∧ WiresAt K H0 wl ws ∧ WvOk nm ws ∧ Nodes S nm H0 ∧ ∀ H', Same H0 H' → WvAtN K S CW H0 H' p nm ws → Q .non H'
section
variable {P : Program} {w : World} {K : PySem.W.Frag} {mg : Str → Option Value} {base : Heap} {f f1 f2 f3 f4 f5 f6 f7 f8 f9 C CN CO CI CW : Addr} {fd fd1 fd2 fd3 fd4 fd5 fd6 fd7 fd8 fd9 : FuncData}
abbrev nWeaveInit : List Str := ["self", "nodes", "wires", "source", "goal", "place", "delay"]
theorem scWeaveInit : FnScope nWeaveInit ["self", "nodes", "wires"] (defScope sWeaveInit) := ⟨rfl, rfl, rfl, by decide +kernel, rfl, by decide +kernel, by decide +kernel⟩
theorem ok_wvInit (S : Sorts K CN CO CI) (F : FnM K "__init__" "Weave.__init__" sWeaveInit f fd) (GNa : FnOk P w K mg base CX0 2 f1 fd1 ["nodes"] (spNamed S)) (gNa : mg "nodes_by_name" = some (.ref f1)) (kNa : PySem.W.keepIn K (.ref f1) = true) (bNa : Binds K fd1 ["nodes"] [])
    (GLe : FnOk P w K mg base CX0 4 f2 fd2 ["wires", "named"] (spLead S)) (gLe : mg "wires_by_goal" = some (.ref f2)) (kLe : PySem.W.keepIn K (.ref f2) = true) (bLe : Binds K fd2 ["wires", "named"] [])
    (GBa : FnOk P w K mg base CX0 1 f3 fd3 ["leading"] spBare) (gBa : mg "refuse_bare" = some (.ref f3)) (kBa : PySem.W.keepIn K (.ref f3) = true) (bBa : Binds K fd3 ["leading"] [])
    (GLv : FnOk P w K mg base CX0 1 f4 fd4 ["wires", "named"] (spLeav K)) (gLv : mg "wires_by_source" = some (.ref f4)) (kLv : PySem.W.keepIn K (.ref f4) = true) (bLv : Binds K fd4 ["wires", "named"] [])
    (GUn : FnOk P w K mg base CX0 2 f5 fd5 ["named", "wires", "leaving"] (spUnfed S)) (gUn : mg "refuse_unfed" = some (.ref f5)) (kUn : PySem.W.keepIn K (.ref f5) = true) (bUn : Binds K fd5 ["named", "wires", "leaving"] [])
    (gMN : ∃ t, mg "MOST_NODES" = some (.int 24 t)) (gMW : ∃ t, mg "MOST_WIRES" = some (.int 48 t)) (gLen : mg "len" = none) (cW : Cls K CW) (n1 : NoAttr K CW "named") (n2 : NoAttr K CW "leading") (n3 : NoAttr K CW "laid") (n4 : NoAttr K CW "leaving") : FnOk P w K mg base CX0 5 f fd ["self", "nodes", "wires"] (spWvInit K S CW) := by
  obtain ⟨tN, gMN⟩ := gMN
  obtain ⟨tW, gMW⟩ := gMW
  refine F.ok scWeaveInit (fun vs H Q E h => ?_) (fun cdv A outer s H vs Q E hr h => ?_)
  · obtain ⟨H0, p, dx, nl, wl, nm, ws, rfl, _⟩ := h
    rfl
  · obtain ⟨H0, p, dx, nl, wl, nm, ws, rfl, s0, p0, hp, ⟨ns, hnl, aln⟩, ⟨ps, hwl, al⟩, ok, nodes, kk⟩ := h
    have hu := hu_of hr
    have hr4 : Room 4 _ := hr
    have hrN : Room 2 _ := hr.mono (by decide)
    have hr2 : Room 2 _ := hr.mono (by decide)
    have hr1 : Room 1 _ := hr.mono (by decide)
    have nd := scWeaveInit.nd
    have few := ok.nms.few
    have fewW := ok.few
    refine ⟨_, PSs.nox (pss_cons (ps_if (PW.pt (pw_or (pt_cmpR op_gt (pe_callB call_len_seq (by rfl) gLen PySem.boot_len (pa_cons (pv 1) pa_nil)) (pe_glob (v := .int 24) rfl gMN ⟨_, rfl⟩) (nomark _)) (pw_or1 (pt_cmpR op_gt (pe_callB call_len_seq (by rfl) gLen PySem.boot_len (pa_cons (pv 2) pa_nil)) (pe_glob (v := .int 48) rfl gMW ⟨_, rfl⟩) (nomark _))))) pss_never pss_nil)
      (pss_cons (ps_fld (pv 0) (pe_call GNa hrN rfl gNa kNa bNa .nil pass0 (pa_cons (pv 1) pa_nil)) rfl)
      (pss_cons (ps_fld (pv 0) (pe_call GLe hr4 rfl gLe kLe bLe .nil pass0 (pa_cons (pv 2) (pa_cons (pe_fld (pv 0) rfl) pa_nil))) rfl)
      (pss_cons (ps_expr (pe_call GBa hr1 rfl gBa kBa bBa .nil pass0 (pa_cons (pe_fld (pv 0) rfl) pa_nil)))
      (pss_cons (ps_fld (pv 0) (pe_lc (own := [("source", 3), ("goal", 4), ("place", 5), ("delay", 6)]) (g := (gTup K 4 (gCons (gName 3) (gCons (gName 4) (gCons (gName 5) (gCons (gName 6) gNil)))))) (tt := tYes) rfl nd (pi_list (pv 2)) (blkOk_by (N := nWeaveInit) (sc := defScope sWeaveInit) (by decide +kernel))
        (fun _ _ _ _ _ => (pg_tup rfl (pgs_cons (pg_name (i := 3) nd rfl (Or.inl rfl)) (pgs_cons (pg_name (i := 4) nd rfl (Or.inl rfl)) (pgs_cons (pg_name (i := 5) nd rfl (Or.inl rfl)) (pgs_cons (pg_name (i := 6) nd rfl (Or.inl rfl)) pgs_nil)))))) (fun _ _ _ _ _ => pts_nil) (fun _ _ _ _ _ => (pe_tup (pa_cons (pv 3) (pa_cons (pv 4) (pa_cons (pv 5) (pa_cons (pv 6) pa_nil))))))) rfl)
      (pss_cons (ps_fld (pv 0) (pe_call GLv hr1 rfl gLv kLv bLv .nil pass0 (pa_cons (pe_fld (pv 0) rfl) (pa_cons (pe_fld (pv 0) rfl) pa_nil))) rfl)
      (pss_one (ps_expr (pe_call GUn hr2 rfl gUn kUn bUn .nil pass0 (pa_cons (pe_fld (pv 0) rfl) (pa_cons (pe_fld (pv 0) rfl) (pa_cons (pe_fld (pv 0) rfl) pa_nil)))))))))))), ?_⟩
    have pN : (H0 p = none) := p0
    have nnl : ns.length = nm.length := aln.len
    have nwl : ps.length = ws.length := al.len
    refine ⟨_, rfl, nl, _, rfl, .inl (SqL.of (s0 _ _ hnl)), _, _, rfl, rfl, ?_⟩
    refine ⟨_, rfl, iteF_ (decide_eq_false (by omega)) ?_⟩
    refine ⟨_, rfl, wl, _, rfl, .inl (SqL.of (s0 _ _ hwl)), _, _, rfl, rfl, ?_⟩
    refine ⟨_, rfl, iteF_ (decide_eq_false (by omega)) ?_⟩
    have hws : WiresAt K H0 wl ws := ⟨ps, hwl, al⟩
    -- the nodes by their names
    refine ⟨_, rfl, nl, nm, rfl, PairsAt.keep ⟨ns, hnl, aln⟩ s0, ok.nms, nodes.keep s0, fun d H1 s1 fd hd1 => ?_⟩
    refine ⟨_, rfl, p, CW, dx, _, rfl, s1 _ _ hp, cW, n1, (by show 0 < 1000; decide), ?_⟩
    rw [putW1]
    have ndp : d ≠ p := (ne_of_none hp fd).symm
    have b1 : Same H0 (wo p H1) := same_wo (s0.trans s1) p0
    have w1 : wo p H1 d = some (.dK (dNamed nm)) := by rw [wo_ne ndp]; exact hd1
    have q1 : wo p H1 p = none := wo_self
    have u1 : Same (wo p H1) (upd H1 p (.ins CW dx [("named", .ref d)])) := wo_upd
    have hp1 : upd H1 p (.ins CW dx [("named", .ref d)]) p = some (.ins CW dx [("named", .ref d)]) := upd_same
    generalize upd H1 p (.ins CW dx [("named", .ref d)]) = G1 at u1 hp1
    generalize wo p H1 = W1 at b1 w1 q1 u1
    -- the wires by their goals
    refine ⟨_, rfl, _, rfl, p, CW, dx, _, _, rfl, hp1, cW, n1, rfl, wl, d, nm, ws, rfl, hws.keep (b1.trans u1), u1 _ _ w1, ok, nodes.keep (b1.trans u1), fun dl las H2 s2 fdl li => ?_⟩
    refine ⟨_, rfl, p, CW, dx, _, rfl, s2 _ _ hp1, cW, n2, (by show 1 < 1000; decide), ?_⟩
    rw [putW2]
    have b2 : Same W1 (wo p H2) := same_wo (u1.trans s2) q1
    have li2 : Lists G1 (wo p H2) dl nm las _ := li.wo hp1 fdl
    have q2 : wo p H2 p = none := wo_self
    have u2 : Same (wo p H2) (upd H2 p (.ins CW dx [("named", .ref d), ("leading", .ref dl)])) := wo_upd
    have hp2 : upd H2 p (.ins CW dx [("named", .ref d), ("leading", .ref dl)]) p = some (.ins CW dx [("named", .ref d), ("leading", .ref dl)]) := upd_same
    generalize upd H2 p (.ins CW dx [("named", .ref d), ("leading", .ref dl)]) = G2 at u2 hp2
    generalize wo p H2 = W2 at b2 li2 q2 u2
    -- none is bare
    refine ⟨_, rfl, p, CW, dx, _, _, rfl, hp2, cW, n2, rfl, G1, dl, nm, las, ws, rfl, li2.keep u2, ok, fun H3 s3 => ?_⟩
    have hp3 := s3 _ _ hp2
    have t3 : Same H0 H3 := b1.trans (b2.trans (u2.trans s3))
    -- the wires, laid
    refine ⟨_, rfl, wl, rfl, ⟨_, SqL.of (t3 _ _ hwl)⟩, fun ld hld => ?_⟩
    have nld : ld ≠ p := (ne_of_none hp3 hld).symm
    refine lc_list (xs := ps) (fun j H' => (∃ qs, H' ld = some (.lst qs) ∧ Al (WireAt K H') qs (ws.take j)) ∧ Same H3 H') ⟨⟨[], upd_same, by rw [List.take_zero]; exact trivial⟩, Same.past (Same.refl _) hld⟩ (fun j H' _ e => SqL.of (e.2 _ _ (t3 _ _ hwl))) (fun j v H' ev e => ?_) (fun H4 e => ?_)
    · obtain ⟨⟨qs, hq0, alq⟩, sm⟩ := e
      obtain ⟨wr, ew, q, rfl, hq⟩ := al.get ev
      have jl := (List.getElem?_eq_some_iff.mp ew).1
      refine ⟨q, _, rfl, Same.tup (t3.trans sm) hq, rfl, _, _, rfl, _, _, rfl, _, _, rfl, _, _, rfl, rfl, rfl, ?_⟩
      refine yes_ite ?_
      refine ⟨_, rfl, _, rfl, _, rfl, _, rfl, (by show 4 ≤ sizeLine; decide), fun t ht => ?_⟩
      have sT := Same.new (o := .tup [V.str wr.src, .str wr.goal, .int (wr.place : Int), .int (wr.delay : Int)]) (Same.refl H') ht
      have nlt : ld ≠ t := ne_of_none hq0 ht
      refine ⟨_, sT _ _ hq0, ?_, ⟨_, upd_same, ?_⟩, Same.past (sm.trans sT) hld⟩
      · rw [alq.len, List.length_take]
        exact Nat.lt_of_le_of_lt (show _ ≤ 48 by omega) (by decide)
      · rw [List.take_succ, ew]
        refine Al.snoc ⟨t, rfl, .inl (.inl ?_)⟩ (alq.imp fun pp x ⟨q', e, h⟩ => ⟨q', e, ?_⟩)
        · rw [upd_ne nlt.symm]
          exact upd_same
        · have h1 := Same.tup sT h
          rcases h1 with (h1 | ⟨o, h1⟩) | h1
          · exact .inl (.inl (by rw [upd_ne (fun z => by rw [z, sT _ _ hq0] at h1; cases h1)]; exact h1))
          · exact .inl (.inr ⟨o, by rw [upd_ne (fun z => by rw [z, sT _ _ hq0] at h1; cases h1)]; exact h1⟩)
          · exact .inr h1
    · obtain ⟨⟨qs, hq0, alq⟩, s4⟩ := e
      rw [nwl, List.take_length] at alq
      refine ⟨_, rfl, p, CW, dx, _, rfl, s4 _ _ hp3, cW, n3, (by show 2 < 1000; decide), ?_⟩
      rw [putW3]
      have b4 : Same W2 (wo p H4) := same_wo (u2.trans (s3.trans s4)) q2
      have wl4 : WiresAt K (wo p H4) ld ws := ⟨qs, by rw [wo_ne nld]; exact hq0, alq.imp fun pp x ⟨q', e, h⟩ => ⟨q', e, wo_tup (s4 _ _ hp3) h⟩⟩
      have q4 : wo p H4 p = none := wo_self
      have u4 : Same (wo p H4) (upd H4 p (.ins CW dx [("named", .ref d), ("leading", .ref dl), ("laid", .ref ld)])) := wo_upd
      have hp4 : upd H4 p (.ins CW dx [("named", .ref d), ("leading", .ref dl), ("laid", .ref ld)]) p = some (.ins CW dx [("named", .ref d), ("leading", .ref dl), ("laid", .ref ld)]) := upd_same
      generalize upd H4 p (.ins CW dx [("named", .ref d), ("leading", .ref dl), ("laid", .ref ld)]) = G4 at u4 hp4
      generalize wo p H4 = W4 at b4 wl4 q4 u4
      have w4 := (b2.trans b4) _ _ w1
      -- the wires by their sources
      refine ⟨_, rfl, p, CW, dx, _, _, rfl, hp4, cW, n3, rfl, _, rfl, p, CW, dx, _, _, rfl, hp4, cW, n1, rfl, ld, d, nm, ws, rfl, wl4.keep u4, u4 _ _ w4, ok, fun dv las2 H5 s5 fdv liv => ?_⟩
      refine ⟨_, rfl, p, CW, dx, _, rfl, s5 _ _ hp4, cW, n4, (by show 3 < 1000; decide), ?_⟩
      rw [putW4, show ([("named", .ref d), ("leading", .ref dl), ("laid", .ref ld), ("leaving", .ref dv)] : List (Str × V)) = wvF d dl ld dv from rfl]
      have ndv : dv ≠ d := (ne_of_none (u4 _ _ w4) fdv).symm
      have b5 : Same W4 (wo p H5) := same_wo (u4.trans s5) q4
      have li5 : Lists G4 (wo p H5) dv nm las2 _ := liv.wo hp4 fdv
      have u5 : Same (wo p H5) (upd H5 p (.ins CW dx (wvF d dl ld dv))) := wo_upd
      have hp5 : upd H5 p (.ins CW dx (wvF d dl ld dv)) p = some (.ins CW dx (wvF d dl ld dv)) := upd_same
      generalize upd H5 p (.ins CW dx (wvF d dl ld dv)) = G5 at u5 hp5
      generalize wo p H5 = W5 at b5 li5 u5
      have w5 := b5 _ _ w4
      have t5 : Same H0 G5 := b1.trans (b2.trans (b4.trans (b5.trans u5)))
      -- all is fed
      refine ⟨_, rfl, p, CW, dx, _, _, rfl, hp5, cW, n1, rfl, _, rfl, p, CW, dx, _, _, rfl, hp5, cW, n3, rfl, _, rfl, p, CW, dx, _, _, rfl, hp5, cW, n4, rfl, G4, d, ld, dv, nm, las2, ws, rfl, ndv, u5 _ _ w5, (wl4.keep b5).keep u5, li5.keep u5, ok, nodes.keep t5, fun H6 s6 => ?_⟩
      have l1 := (li2.keep (b4.trans (b5.trans (u5.trans s6))))
      have l2 := (li5.keep (u5.trans s6))
      have fd0 : H0 d = none := s0.free fd
      have t1 : Same H0 G1 := b1.trans u1
      have t4 : Same H0 G4 := b1.trans (b2.trans (b4.trans u4))
      exact kk H6 (t5.trans s6) ⟨dx, d, dl, ld, dv, s6 _ _ hp5, ⟨(u5.trans s6) _ _ w5, ⟨las, l1.any⟩, wl4.keep (b5.trans (u5.trans s6)), ⟨las2, l2.any⟩, nodes.keep (t5.trans s6)⟩, fd0, t1.free fdl, t3.free hld, t4.free fdv, ⟨las, l1.base t1⟩, ⟨las2, l2.base t4⟩⟩
end
end Sw
namespace Sw
open PySem PySem.Spec PyProof.Rows L2
/-! ### what a weave tells -/
theorem WvF.keep {K : PySem.W.Frag} {CN CO CI : Addr} {S : Sorts K CN CO CI} {H H1 : Hp} {d dl ld dv : Addr} {nm : List Nm} {ws : List Wr} (h : WvF K S H d dl ld dv nm ws) (s : Same H H1) : WvF K S H1 d dl ld dv nm ws := by
  obtain ⟨a, ⟨l1, b⟩, c, ⟨l2, e⟩, f⟩ := h
  exact ⟨s _ _ a, ⟨l1, b.keep s⟩, c.keep s, ⟨l2, e.keep s⟩, f.keep s⟩
theorem WvAt.keep {K : PySem.W.Frag} {CN CO CI CW : Addr} {S : Sorts K CN CO CI} {H H1 : Hp} {p : Addr} {nm : List Nm} {ws : List Wr} (h : WvAt K S CW H p nm ws) (s : Same H H1) : WvAt K S CW H1 p nm ws := by
  obtain ⟨dx, d, dl, ld, dv, hp, h⟩ := h
  exact ⟨dx, d, dl, ld, dv, s _ _ hp, h.keep s⟩
def namesN (nm : List Nm) (f : Nm → Bool) : List Str := (nm.filter f).map Nm.name
theorem namesN_snoc {nm : List Nm} {j : Nat} {x : Nm} (f : Nm → Bool) (ex : nm[j]? = some x) : namesN (nm.take (j + 1)) f = namesN (nm.take j) f ++ (if f x = true then [x.name] else []) := by
  unfold namesN
  rw [List.take_succ, ex, List.filter_append, List.map_append]
  congr 1
  by_cases z : f x = true
  · rw [if_pos z]
    show (List.filter _ [x]).map _ = _
    rw [List.filter_cons, if_pos z]
    rfl
  · rw [if_neg z]
    show (List.filter _ [x]).map _ = _
    rw [List.filter_cons, if_neg z]
    rfl
theorem namesN_len {nm : List Nm} (f : Nm → Bool) {j : Nat} (few : nm.length ≤ 24) : (strL (namesN (nm.take j) f)).length ≤ 24 := by
  unfold strL namesN
  rw [List.length_map, List.length_map]
  have h1 := List.length_filter_le f (nm.take j)
  rw [List.length_take] at h1
  omega
structure WvC (K : PySem.W.Frag) (CW : Addr) : Prop where
  cl : Cls K CW
  n1 : NoAttr K CW "named"
  n2 : NoAttr K CW "leading"
  n3 : NoAttr K CW "laid"
  n4 : NoAttr K CW "leaving"
def spWvNames (K : PySem.W.Frag) {CN CO CI : Addr} (S : Sorts K CN CO CI) (CW : Addr) (f : Nm → Bool) : Sp := fun vs H Q _ => ∃ (p : Addr) (nm : List Nm) (ws : List Wr), vs = [.ref p] ∧ WvAt K S CW H p nm ws ∧ NmsOk nm ∧ ∀ l H', Same H H' → H l = none → H' l = some (.lst (strL (namesN nm f))) → Q (.ref l) H'
def spWvWires (K : PySem.W.Frag) {CN CO CI : Addr} (S : Sorts K CN CO CI) (CW : Addr) : Sp := fun vs H Q _ => ∃ (p : Addr) (nm : List Nm) (ws : List Wr), vs = [.ref p] ∧ WvAt K S CW H p nm ws ∧ ∀ l H', Same H H' → H l = none → WiresAt K H' l ws → Q (.ref l) H'
def spWvLen (K : PySem.W.Frag) {CN CO CI : Addr} (S : Sorts K CN CO CI) (CW : Addr) : Sp := fun vs H Q _ => ∃ (p : Addr) (nm : List Nm) (ws : List Wr), vs = [.ref p] ∧ WvAt K S CW H p nm ws ∧ NmsOk nm ∧ Q (.int (nm.length : Int)) H
def spWvKnown (K : PySem.W.Frag) {CN CO CI : Addr} (S : Sorts K CN CO CI) (CW : Addr) : Sp := fun vs H Q _ => ∃ (p : Addr) (nm : List Nm) (ws : List Wr) (x : Nm), vs = [.ref p, .str x.name] ∧ WvAt K S CW H p nm ws ∧ NmsOk nm ∧ x ∈ nm ∧ Q .non H
def spWvNode (K : PySem.W.Frag) {CN CO CI : Addr} (S : Sorts K CN CO CI) (CW : Addr) : Sp := fun vs H Q _ => ∃ (p : Addr) (nm : List Nm) (ws : List Wr) (x : Nm), vs = [.ref p, .str x.name] ∧ WvAt K S CW H p nm ws ∧ NmsOk nm ∧ x ∈ nm ∧ Q (.ref x.adr) H
section
variable {P : Program} {w : World} {K : PySem.W.Frag} {mg : Str → Option Value} {base : Heap} {f f1 f2 f3 f4 f5 f6 f7 f8 f9 C CN CO CI CW : Addr} {fd fd1 fd2 fd3 fd4 fd5 fd6 fd7 fd8 fd9 : FuncData}
abbrev nWeaveWires : List Str := ["self"]
theorem scWeaveWires : FnScope nWeaveWires ["self"] (defScope sWeaveWires) := ⟨rfl, rfl, rfl, by decide +kernel, rfl, by decide +kernel, by decide +kernel⟩
theorem ok_wvWires (S : Sorts K CN CO CI) (F : FnM K "wires" "Weave.wires" sWeaveWires f fd) (T : WvC K CW) (gList : mg "list" = none) : FnOk P w K mg base CX0 1 f fd ["self"] (spWvWires K S CW) := by
  refine F.ok scWeaveWires (fun vs H Q E h => ?_) (fun cdv A outer s H vs Q E hr h => ?_)
  · obtain ⟨p, nm, ws, rfl, _⟩ := h
    rfl
  · obtain ⟨p, nm, ws, rfl, ⟨dx, d, dl, ld, dv, hp, wf⟩, kk⟩ := h
    have hu := hu_of hr
    have nd := scWeaveWires.nd
    obtain ⟨ps, hl, al⟩ := wf.laid
    refine ⟨_, PSs.nox (pss_one (ps_ret (pe_callTy (call_list_ofK (K := K) rfl) (by rfl) gList PyProof.Rows.boot_list (pa_cons (pe_fld (pv 0) rfl) pa_nil)))), ?_⟩
    refine ⟨_, rfl, p, CW, dx, _, _, rfl, hp, T.cl, T.n3, rfl, ld, _, rfl, .inl (SqL.of hl), fun l hn => ?_⟩
    have sN := Same.new (o := .lst ps) (Same.refl H) hn
    exact kk l _ sN hn ⟨ps, upd_same, al.imp fun pp x ⟨q, e, h⟩ => ⟨q, e, Same.tup sN h⟩⟩
abbrev nWeaveCheckKnown : List Str := ["self", "name"]
theorem scWeaveCheckKnown : FnScope nWeaveCheckKnown ["self", "name"] (defScope sWeaveCheckKnown) := ⟨rfl, rfl, rfl, by decide +kernel, rfl, by decide +kernel, by decide +kernel⟩
theorem ok_wvKnown (S : Sorts K CN CO CI) (F : FnM K "check_known" "Weave.check_known" sWeaveCheckKnown f fd) (T : WvC K CW) (GOn : FnOk P w K mg base CX0 1 f1 fd1 ["thing", "names"] spOneOf) (gOn : mg "is_one_of" = some (.ref f1)) (kOn : PySem.W.keepIn K (.ref f1) = true) (bOn : Binds K fd1 ["thing", "names"] []) : FnOk P w K mg base CX0 2 f fd ["self", "name"] (spWvKnown K S CW) := by
  refine F.ok scWeaveCheckKnown (fun vs H Q E h => ?_) (fun cdv A outer s H vs Q E hr h => ?_)
  · obtain ⟨p, nm, ws, x, rfl, _⟩ := h
    rfl
  · obtain ⟨p, nm, ws, x, rfl, ⟨dx, d, dl, ld, dv, hp, wf⟩, nok, xm, kk⟩ := h
    have hu := hu_of hr
    have nd := scWeaveCheckKnown.nd
    refine ⟨_, PSs.nox (pss_one (ps_if (pt_not (pt_val (pe_call GOn hr rfl gOn kOn bOn .nil pass0 (pa_cons (pv 1) (pa_cons (pe_fld (pv 0) rfl) pa_nil))))) pss_never pss_nil)), ?_⟩
    refine ⟨_, rfl, _, rfl, p, CW, dx, _, _, rfl, hp, T.cl, T.n1, rfl, x.name, d, _, rfl, .inl wf.named, ?_⟩
    rw [valV_named nok.nd xm]
    exact ⟨_, rfl, iteF kk⟩
end
end Sw
namespace Sw
open PySem PySem.Spec PyProof.Rows L2
def spWvPairs (K : PySem.W.Frag) {CN CO CI : Addr} (S : Sorts K CN CO CI) (CW : Addr) : Sp := fun vs H Q _ => ∃ (p : Addr) (nm : List Nm) (ws : List Wr), vs = [.ref p] ∧ WvAt K S CW H p nm ws ∧ NmsOk nm ∧ ∀ l H', Same H H' → H l = none → PairsAt K H' l nm → Q (.ref l) H'
theorem pair_upd {K : PySem.W.Frag} {H : Hp} {l : Addr} {ys zs : List V} {pp : V} {x : Nm} (hl : H l = some (.lst ys)) (h : PairAt K H pp x) : PairAt K (L2.upd H l (.lst zs)) pp x := by
  obtain ⟨q, e, h1⟩ := h
  refine ⟨q, e, ?_⟩
  rcases h1 with (h1 | ⟨o, h1⟩) | h1
  · exact .inl (.inl (by rw [upd_ne (fun z => by rw [z, hl] at h1; cases h1)]; exact h1))
  · exact .inl (.inr ⟨o, by rw [upd_ne (fun z => by rw [z, hl] at h1; cases h1)]; exact h1⟩)
  · exact .inr h1
theorem pair_unl {K : PySem.W.Frag} {H : Hp} {d : Addr} {od : Obj} {u : HO} {pp : V} {x : Nm} {kvs : List (Key × V)} (hd : H d = some (.frz od (.dK kvs))) (h : PairAt K H pp x) : PairAt K (L2.upd H d u) pp x := by
  obtain ⟨q, e, h1⟩ := h
  refine ⟨q, e, ?_⟩
  rcases h1 with (h1 | ⟨o, h1⟩) | h1
  · exact .inl (.inl (by rw [upd_ne (fun z => by rw [z, hd] at h1; cases h1)]; exact h1))
  · exact .inl (.inr ⟨o, by rw [upd_ne (fun z => by rw [z, hd] at h1; cases h1)]; exact h1⟩)
  · exact .inr h1
section
variable {P : Program} {w : World} {K : PySem.W.Frag} {mg : Str → Option Value} {base : Heap} {f f1 f2 f3 f4 f5 f6 f7 f8 f9 C CN CO CI CW : Addr} {fd fd1 fd2 fd3 fd4 fd5 fd6 fd7 fd8 fd9 : FuncData}
abbrev nWeaveNode : List Str := ["self", "name"]
theorem scWeaveNode : FnScope nWeaveNode ["self", "name"] (defScope sWeaveNode) := ⟨rfl, rfl, rfl, by decide +kernel, rfl, by decide +kernel, by decide +kernel⟩
theorem ok_wvNode (S : Sorts K CN CO CI) (F : FnM K "node" "Weave.node" sWeaveNode f fd) (T : WvC K CW) (c0 : Cls K CW) (mK : Meth K CW "check_known" f1) (GK : FnOk P w K mg base CX0 2 f1 fd1 ["self", "name"] (spWvKnown K S CW)) (bK : Binds K fd1 ["self", "name"] []) : FnOk P w K mg base CX0 3 f fd ["self", "name"] (spWvNode K S CW) := by
  refine F.ok scWeaveNode (fun vs H Q E h => ?_) (fun cdv A outer s H vs Q E hr h => ?_)
  · obtain ⟨p, nm, ws, x, rfl, _⟩ := h
    rfl
  · obtain ⟨p, nm, ws, x, rfl, ⟨dx, d, dl, ld, dv, hp, wf⟩, nok, xm, kk⟩ := h
    have hu := hu_of hr
    have nd := scWeaveNode.nd
    refine ⟨_, PSs.nox (pss_cons (ps_expr (pe_meth (pv 0) c0 mK GK hr bK .nil pass0 (pa_cons (pv 1) pa_nil)))
      (pss_one (ps_ret (pe_dget hu (pe_fld (pv 0) rfl) (pv 1) (fun _ _ => rfl))))), ?_⟩
    refine ⟨_, rfl, p, dx, _, rfl, hp, rfl, _, rfl, p, nm, ws, x, rfl, ⟨dx, d, dl, ld, dv, hp, wf⟩, nok, xm, ?_⟩
    refine ⟨_, rfl, p, CW, dx, _, _, rfl, hp, T.cl, T.n1, rfl, _, rfl, d, _, rfl, ?_, kk⟩
    rw [← valV_named nok.nd xm]
    exact DGet.k (k := Sum.inr x.name) wf.named
abbrev nWeavePairs : List Str := ["self", "name"]
theorem scWeavePairs : FnScope nWeavePairs ["self"] (defScope sWeavePairs) := ⟨rfl, rfl, rfl, by decide +kernel, rfl, by decide +kernel, by decide +kernel⟩
theorem ok_wvPairs (S : Sorts K CN CO CI) (F : FnM K "pairs" "Weave.pairs" sWeavePairs f fd) (T : WvC K CW) : FnOk P w K mg base CX0 1 f fd ["self"] (spWvPairs K S CW) := by
  refine F.ok scWeavePairs (fun vs H Q E h => ?_) (fun cdv A outer s H vs Q E hr h => ?_)
  · obtain ⟨p, nm, ws, rfl, _⟩ := h
    rfl
  · obtain ⟨p, nm, ws, rfl, ⟨dx, d, dl, ld, dv, hp, wf⟩, nok, kk⟩ := h
    have hu := hu_of hr
    have nd := scWeavePairs.nd
    have few := nok.few
    have hd := wf.named
    refine ⟨_, PSs.nox (pss_one (ps_ret (pe_lock (pe_lc (own := [("name", 1)]) (g := (gName 1)) (tt := tYes) rfl nd (pi_keys (pe_fld (pv 0) rfl)) (blkOk_by (N := nWeavePairs) (sc := defScope sWeavePairs) (by decide +kernel))
        (fun _ _ _ _ _ => (pg_name (i := 1) nd rfl (Or.inl rfl))) (fun _ _ _ _ _ => pts_nil) (fun _ _ _ _ _ => (pe_tup (pa_cons (pv 1) (pa_cons (pe_dget hu (pe_fldK (K := K) rfl (pv 0) rfl) (pv 1) (fun _ _ => rfl)) pa_nil)))))))), ?_⟩
    refine ⟨d, _, hd, trivial, fun oe => ?_⟩
    have hM : (upd H d (.frz oe (.dK (dNamed nm)))) d = some (.frz oe (.dK (dNamed nm))) := upd_same
    have hpM : (upd H d (.frz oe (.dK (dNamed nm)))) p = some (.ins CW dx (wvF d dl ld dv)) := lock_ne hd hp (fun _ z => by cases z)
    have freeM : ∀ {a : Addr}, (upd H d (.frz oe (.dK (dNamed nm)))) a = none → H a = none := fun {a} e => by
      by_cases z : a = d
      · rw [z, hM] at e
        cases e
      · rw [upd_ne z] at e
        exact e
    generalize eHM : upd H d (.frz oe (.dK (dNamed nm))) = HM at hM hpM freeM
    refine ⟨_, rfl, p, CW, dx, _, _, rfl, hpM, T.cl, T.n1, rfl, d, oe, rfl, .inl ⟨_, hM, fun st hst => ?_⟩⟩
    have nsd : st ≠ d := (ne_of_none hM hst).symm
    refine lc_it (walk_keys (d := d) (o := oe) (kvs := dNamed nm)) (fun j H' => (∃ qs, H' st = some (.lst qs) ∧ Al (PairAt K H') qs (nm.take j)) ∧ Same HM H') ⟨⟨[], upd_same, by rw [List.take_zero]; exact trivial⟩, Same.past (Same.refl _) hst⟩ (fun j H' _ e => e.2 _ _ hM) (fun j v H' H'' hj e y => ?_) (fun H2 e => ?_)
    · obtain ⟨⟨qs, hs1, al⟩, sm⟩ := e
      obtain ⟨rfl, k, v', ek, rfl⟩ := y
      obtain ⟨x, ex, rfl, rfl⟩ := dNamed_get ek
      have xm : x ∈ nm := List.mem_of_getElem? ex
      refine ⟨rfl, ?_⟩
      refine yes_ite ?_
      refine ⟨_, rfl, _, rfl, p, CW, dx, _, _, rfl, sm _ _ hpM, T.cl, T.n1, rfl, _, rfl, d, _, rfl, .inl ⟨_, Sum.inr x.name, .inr ⟨oe, sm _ _ hM⟩, rfl, (valV_named nok.nd xm).symm⟩, (by show 2 ≤ sizeLine; decide), fun t ht => ?_⟩
      have sT := Same.new (o := .tup [V.str x.name, .ref x.adr]) (Same.refl H'') ht
      refine ⟨_, sT _ _ hs1, ?_, ⟨_, upd_same, ?_⟩, Same.past (sm.trans sT) hst⟩
      · rw [al.len, List.length_take]
        exact Nat.lt_of_le_of_lt (show _ ≤ 24 by omega) (by decide)
      · rw [List.take_succ, ex]
        exact Al.snoc (pair_upd (sT _ _ hs1) ⟨t, rfl, .inl (.inl upd_same)⟩) (al.imp fun pp y ⟨q, e, h⟩ => pair_upd (sT _ _ hs1) ⟨q, e, Same.tup sT h⟩)
    · obtain ⟨⟨qs, hs1, al⟩, sm⟩ := e
      have dn : (dNamed nm).length = nm.length := by
        unfold dNamed
        rw [List.length_map]
      rw [dn, List.take_length] at al
      refine ⟨sm _ _ hM, kk st _ (unlock hd (eHM ▸ sm)) (freeM hst) ⟨qs, ?_, al.imp fun pp y h => pair_unl (sm _ _ hM) h⟩⟩
      rw [upd_ne nsd]
      exact hs1
end
end Sw
namespace Sw
open PySem PySem.Spec PyProof.Rows L2
/-! ### the law's drawing -/
theorem max0 (x : Int) : 0 ≤ (if x > 0 then x else 0) := by
  split <;> omega
def spDigit : Sp := fun vs H Q _ => ∃ (p : Addr) (m : Int), vs = [.ref p, .int m] ∧ PotAt H p ∧ 0 < m ∧ m < 1073741824 ∧ ∀ (d : Int) (H' : Hp), 0 ≤ d → d < m → Kept p H H' → PotAt H' p → Q (.int d) H'
def spPot (K : PySem.W.Frag) : Sp := fun vs H Q _ => ∃ (a : Addr) (ns : List Int) (k : Nat), vs = [.ref a, .int (k : Int)] ∧ SqL K H a (ns.map V.int) ∧ k ≤ 100 ∧ ∀ (p : Addr) (H' : Hp), H p = none → Same H H' → PotAt H' p → Q (.ref p) H'
section
variable {P : Program} {w : World} {K : PySem.W.Frag} {mg : Str → Option Value} {base : Heap} {f f1 f2 f3 f4 f5 f6 f7 f8 f9 C CN CO CI CW : Addr} {fd fd1 fd2 fd3 fd4 fd5 fd6 fd7 fd8 fd9 : FuncData}
abbrev nLDigit : List Str := ["_law_pot_here", "_law_many", "_law_digit_here"]
theorem scLDigit : FnScope nLDigit ["_law_pot_here", "_law_many"] (defScope sLDigit) := ⟨rfl, rfl, rfl, by decide +kernel, rfl, by decide +kernel, by decide +kernel⟩
theorem ok_digit (F : FnP K "_law_digit" sLDigit f fd) : FnOk P w K mg base CX0 1 f fd ["_law_pot_here", "_law_many"] spDigit := by
  refine F.ok scLDigit (fun vs H Q E h => ?_) (fun cdv A outer s H vs Q E hr h => ?_)
  · obtain ⟨p, m, rfl, _⟩ := h
    rfl
  · obtain ⟨p, m, rfl, ⟨a, b, a0, b0, b1, hp⟩, m0, m1, kk⟩ := h
    have nd := scLDigit.nd
    refine ⟨_, PSs.nox (pss_cons (ps_if (pt_cmpR op_gt (pe_ix ix_list (pv 0) pe_int (fun _ _ => rfl)) pe_int (nomark _)) (pss_cons (ps_set (i := 2) nd rfl (Or.inl rfl) (pe_op op_mod (pe_ix ix_list (pv 0) pe_int (fun _ _ => rfl)) (pv 1)))
      (pss_cons (ps_asg (pe_op op_fdiv (pe_ix ix_list (pv 0) pe_int (fun _ _ => rfl)) (pv 1)) (pg_sub (pv 0) pe_int set_list (by intro _; rfl)))
      (pss_one (ps_ret (pv 2))))) pss_nil)
      (pss_cons (ps_asg (pe_op op_mod (pe_op op_add (pe_op op_mul (pe_ix ix_list (pv 0) pe_int (fun _ _ => rfl)) pe_int) pe_int) pe_int) (pg_sub (pv 0) pe_int set_list (by intro _; rfl)))
      (pss_one (ps_ret (pe_op op_mod (pe_op op_fdiv (pe_op op_mod (pe_op op_mul (pe_ix ix_list (pv 0) pe_int (fun _ _ => rfl)) (pe_ix ix_list (pv 0) pe_int (fun _ _ => rfl))) pe_int) pe_int) (pv 1)))))), ?_⟩
    refine ⟨_, rfl, p, _, _, _, rfl, rfl, SqL.of hp, atI_nat (j := 0) rfl, _, _, rfl, rfl, _, rfl, ?_⟩
    refine ite2 (fun h => ?_) (fun _ => ?_)
    · refine ⟨_, rfl, p, _, _, _, rfl, rfl, SqL.of hp, atI_nat (j := 0) rfl, _, rfl, _, _, rfl, rfl, m0, ?_⟩
      refine ⟨_, rfl, p, _, _, _, rfl, rfl, SqL.of hp, atI_nat (j := 0) rfl, _, rfl, _, _, rfl, rfl, ⟨m0, m1⟩, ?_⟩
      refine ⟨_, rfl, p, _, _, 0, rfl, rfl, hp, rfl, ?_⟩
      exact ⟨_, rfl, kk _ _ (Int.emod_nonneg _ (by omega)) (Int.emod_lt_of_pos _ m0) (Kept.upd Kept.refl) ⟨_, b, Int.ediv_nonneg a0 (by omega), b0, b1, upd_same⟩⟩
    · have c0 := Int.emod_nonneg (b * 39373 + 20011) (show (2147483647 : Int) ≠ 0 by decide)
      have c1 := Int.emod_lt_of_pos (b * 39373 + 20011) (show (0 : Int) < 2147483647 by decide)
      refine ⟨_, rfl, p, _, _, _, rfl, rfl, SqL.of hp, atI_nat (j := 1) rfl, _, _, rfl, rfl, .inr ⟨by decide, by decide⟩, _, _, rfl, rfl, _, _, rfl, rfl, (by show (0 : Int) < _; decide), ?_⟩
      refine ⟨_, rfl, p, _, _, 1, rfl, rfl, hp, rfl, ?_⟩
      have hz : (upd H p (.lst ([V.int a, V.int b].set 1 (V.int ((b * 39373 + 20011) % 2147483647))))) p = some (.lst [V.int a, V.int ((b * 39373 + 20011) % 2147483647)]) := upd_same
      refine ⟨_, rfl, p, _, _, _, rfl, rfl, SqL.of hz, atI_nat (j := 1) rfl, _, rfl, p, _, _, _, rfl, rfl, SqL.of hz, atI_nat (j := 1) rfl, _, _, rfl, rfl, .inl ⟨by omega, by omega⟩, ?_⟩
      refine ⟨_, _, rfl, rfl, (by show (0 : Int) < _; decide), _, _, rfl, rfl, ⟨by decide, by decide⟩, _, rfl, _, _, rfl, rfl, m0, ?_⟩
      exact kk _ _ (Int.emod_nonneg _ (by omega)) (Int.emod_lt_of_pos _ m0) (Kept.upd Kept.refl) ⟨_, _, a0, c0, by omega, hz⟩
abbrev nPot : List Str := ["_law_script", "_law_k", "_law_cell"]
theorem scPot : FnScope nPot ["_law_script", "_law_k"] (defScope sPot) := ⟨rfl, rfl, rfl, by decide +kernel, rfl, by decide +kernel, by decide +kernel⟩
theorem ok_pot (F : FnP K "_law_pot" sPot f fd) (gMax : mg "max" = none) (gLen : mg "len" = none) (gAbs : mg "abs" = none) : FnOk P w K mg base CX0 1 f fd ["_law_script", "_law_k"] (spPot K) := by
  refine F.ok scPot (fun vs H Q E h => ?_) (fun cdv A outer s H vs Q E hr h => ?_)
  · obtain ⟨a, ns, k, rfl, _⟩ := h
    rfl
  · obtain ⟨a, ns, k, rfl, hS, k1, kk⟩ := h
    have nd := scPot.nd
    refine ⟨_, PSs.nox (pss_cons (ps_set (i := 2) nd rfl (Or.inl rfl) (pe_ifExp (pt_cmpR op_lt (pv 1) (pe_callB call_len_seq (by rfl) gLen PySem.boot_len (pa_cons (pv 0) pa_nil)) (nomark _)) (pe_ix ix_list (pv 0) (pv 1) (fun _ _ => rfl)) pe_int))
      (pss_one (ps_ret (pe_lst (pa_cons (pe_callB (call_max2 rfl) (by rfl) gMax (by decide +kernel) (pa_cons pe_int (pa_cons (pe_op op_sub (pe_callB call_abs (by rfl) gAbs (by decide +kernel) (pa_cons (pv 2) pa_nil)) (pe_op op_pow pe_int pe_int)) pa_nil))) (pa_cons (pe_op op_add (pe_op op_add (pe_op op_mod (pe_callB call_abs (by rfl) gAbs (by decide +kernel) (pa_cons (pv 2) pa_nil)) pe_int) (pe_op op_mul pe_int (pv 1))) pe_int) pa_nil)))))), ?_⟩
    refine ⟨_, rfl, _, rfl, a, _, rfl, .inl hS, _, _, rfl, rfl, _, rfl, ?_⟩
    refine ite2 (fun h => ?_) (fun _ => ?_)
    · have h1 := of_decide_eq_true h
      rw [List.length_map] at h1
      have h2 : k < ns.length := by omega
      refine ⟨_, rfl, _, rfl, a, _, _, V.int (ns[k]), rfl, rfl, hS, atI_nat ?_, ?_⟩
      · rw [List.getElem?_map, List.getElem?_eq_getElem h2]
        rfl
      generalize ns[k] = c
      have q0 := Int.emod_nonneg (if c < 0 then -c else c) (show (2147483587 : Int) ≠ 0 by decide)
      have q1 := Int.emod_lt_of_pos (if c < 0 then -c else c) (show (0 : Int) < 2147483587 by decide)
      refine ⟨_, rfl, _, rfl, _, _, rfl, rfl, ⟨by decide, by decide, by decide⟩, _, _, rfl, rfl, _, _, rfl, ?_⟩
      refine ⟨_, rfl, _, rfl, _, _, rfl, rfl, (by show (0 : Int) < _; decide), _, rfl, _, _, rfl, rfl, .inl ⟨by decide, by decide⟩, _, _, rfl, rfl, _, _, rfl, rfl, ?_⟩
      refine ⟨(by show 2 ≤ sizeLine; decide), fun p hp => kk p _ hp (Same.new (Same.refl _) hp) ⟨_, _, ?_, ?_, ?_, upd_same⟩⟩
      · exact max0 _
      · omega
      · omega
    · have q0 := Int.emod_nonneg (if (0 : Int) < 0 then -(0 : Int) else (0 : Int)) (show (2147483587 : Int) ≠ 0 by decide)
      have q1 := Int.emod_lt_of_pos (if (0 : Int) < 0 then -(0 : Int) else (0 : Int)) (show (0 : Int) < 2147483587 by decide)
      refine ⟨_, rfl, _, rfl, _, _, rfl, rfl, ⟨by decide, by decide, by decide⟩, _, _, rfl, rfl, _, _, rfl, ?_⟩
      refine ⟨_, rfl, _, rfl, _, _, rfl, rfl, (by show (0 : Int) < _; decide), _, rfl, _, _, rfl, rfl, .inl ⟨by decide, by decide⟩, _, _, rfl, rfl, _, _, rfl, rfl, ?_⟩
      refine ⟨(by show 2 ≤ sizeLine; decide), fun p hp => kk p _ hp (Same.new (Same.refl _) hp) ⟨_, _, ?_, ?_, ?_, upd_same⟩⟩
      · exact max0 _
      · omega
      · omega
end
end Sw
namespace Sw
open PySem PySem.Spec PyProof.Rows L2
theorem op_notIn_seqK {X : Cx} {K : PySem.W.Frag} (h : X.K = K) : OpR X (compareOp .NotIn) (rIn K true) := by
  subst h
  exact op_notIn_seq
theorem op_in_seqK {X : Cx} {K : PySem.W.Frag} (h : X.K = K) : OpR X (compareOp .In) (rIn K false) := by
  subst h
  exact op_in_seq
/-! ### data under changes of the heap -/
mutual
theorem Dp.keep {K : PySem.W.Frag} {H H1 : Hp} (s : Same H H1) : ∀ {d : PyData} {v : V}, Dp K H v d → Dp K H1 v d
  | _, _, .non => .non
  | _, _, .bl b => .bl b
  | _, _, .int i => .int i
  | _, _, .str x => .str x
  | _, _, .lst h a => .lst (s.seq h) (DpAll.keep s a)
  | _, _, .tup h a => .tup (Same.tup s h) (DpAll.keep s a)
theorem DpAll.keep {K : PySem.W.Frag} {H H1 : Hp} (s : Same H H1) : ∀ {ds : List PyData} {vs : List V}, DpAll K H vs ds → DpAll K H1 vs ds
  | _, _, .nil => .nil
  | _, _, .cons h a => .cons (Dp.keep s h) (DpAll.keep s a)
end
/-- tuples stay -/
def KT (K : PySem.W.Frag) (H H1 : Hp) : Prop := ∀ q xs, SqT K H q xs → SqT K H1 q xs
theorem KT.refl {K : PySem.W.Frag} {H : Hp} : KT K H H := fun _ _ h => h
theorem KT.trans {K : PySem.W.Frag} {H H1 H2 : Hp} (a : KT K H H1) (b : KT K H1 H2) : KT K H H2 := fun q xs h => b q xs (a q xs h)
theorem KT.same {K : PySem.W.Frag} {H H1 : Hp} (s : Same H H1) : KT K H H1 := fun _ _ h => Same.tup s h
theorem KT.kept {K : PySem.W.Frag} {p : Addr} {H H1 : Hp} (k : Kept p H H1) (hp : PotAt H p) : KT K H H1 := fun _ _ h => k.tup hp h
theorem KT.lst {K : PySem.W.Frag} {H : Hp} {l : Addr} {ys : List V} {o : HO} (hl : H l = some (.lst ys)) : KT K H (L2.upd H l o) := fun q xs h => by
  rcases h with (h | ⟨u, h⟩) | h
  · exact .inl (.inl (by rw [upd_ne (fun z => by rw [z, hl] at h; cases h)]; exact h))
  · exact .inl (.inr ⟨u, by rw [upd_ne (fun z => by rw [z, hl] at h; cases h)]; exact h⟩)
  · exact .inr h
theorem KT.wo {K : PySem.W.Frag} {H : Hp} {l : Addr} {ys : List V} (hl : H l = some (.lst ys)) : KT K H (wo l H) := fun q xs h => by
  rcases h with (h | ⟨u, h⟩) | h
  · exact .inl (.inl (by rw [wo_ne (fun z => by rw [z, hl] at h; cases h)]; exact h))
  · exact .inl (.inr ⟨u, by rw [wo_ne (fun z => by rw [z, hl] at h; cases h)]; exact h⟩)
  · exact .inr h
mutual
/-- no list in it -/
def noList : PyData → Bool
  | .list _ => false
  | .tuple ds => noLists ds
  | _ => true
def noLists : List PyData → Bool
  | [] => true
  | d :: ds => noList d && noLists ds
end
mutual
theorem Dp.kt {K : PySem.W.Frag} {H H1 : Hp} (s : KT K H H1) : ∀ {d : PyData} {v : V}, noList d = true → Dp K H v d → Dp K H1 v d
  | _, _, _, .non => .non
  | _, _, _, .bl b => .bl b
  | _, _, _, .int i => .int i
  | _, _, _, .str x => .str x
  | _, _, n, .lst h a => by rw [noList] at n; cases n
  | _, _, n, .tup h a => .tup (s _ _ h) (DpAll.kt s (by rw [noList] at n; exact n) a)
theorem DpAll.kt {K : PySem.W.Frag} {H H1 : Hp} (s : KT K H H1) : ∀ {ds : List PyData} {vs : List V}, noLists ds = true → DpAll K H vs ds → DpAll K H1 vs ds
  | _, _, _, .nil => .nil
  | _, _, n, .cons h a => .cons (Dp.kt s (by rw [noLists, Bool.and_eq_true] at n; exact n.1) h) (DpAll.kt s (by rw [noLists, Bool.and_eq_true] at n; exact n.2) a)
end
/-- a list of data in order, one for one -/
def ListD (K : PySem.W.Frag) (H : Hp) (l : Addr) (ds : List PyData) : Prop := ∃ vs, H l = some (.lst vs) ∧ DpAll K H vs ds
theorem DpAll.len {K : PySem.W.Frag} {H : Hp} : ∀ {vs : List V} {ds : List PyData}, DpAll K H vs ds → vs.length = ds.length
  | _, _, .nil => rfl
  | _, _, .cons _ a => by rw [List.length_cons, List.length_cons, DpAll.len a]
theorem DpAll.get {K : PySem.W.Frag} {H : Hp} : ∀ {vs : List V} {ds : List PyData} {i : Nat} {v : V}, DpAll K H vs ds → vs[i]? = some v → ∃ d, ds[i]? = some d ∧ Dp K H v d
  | _, _, i, v, .nil, h => by simp at h
  | _, _, 0, v, .cons h a, e => ⟨_, rfl, by
    have := Option.some.inj e
    rw [← this]
    exact h⟩
  | _, _, i + 1, v, .cons h a, e => by
    obtain ⟨d, h1, h2⟩ := DpAll.get a (by simpa using e)
    exact ⟨d, by simpa using h1, h2⟩
theorem DpAll.snoc {K : PySem.W.Frag} {H : Hp} {v : V} {d : PyData} (h : Dp K H v d) : ∀ {vs : List V} {ds : List PyData}, DpAll K H vs ds → DpAll K H (vs ++ [v]) (ds ++ [d])
  | _, _, .nil => .cons h .nil
  | _, _, .cons g a => .cons g (DpAll.snoc h a)
theorem ListD.keep {K : PySem.W.Frag} {H H1 : Hp} {l : Addr} {ds : List PyData} (h : ListD K H l ds) (s : Same H H1) : ListD K H1 l ds := by
  obtain ⟨vs, h1, h2⟩ := h
  exact ⟨vs, s _ _ h1, DpAll.keep s h2⟩
theorem ListD.dp {K : PySem.W.Frag} {H : Hp} {l : Addr} {ds : List PyData} (h : ListD K H l ds) : Dp K H (.ref l) (.list ds) := by
  obtain ⟨vs, h1, h2⟩ := h
  exact .lst (SqL.of h1) h2
/-! ### the law's names -/
theorem joinL_flat : ∀ zs : List (List Nat), TL.joinL [] zs = zs.flatten
  | [] => rfl
  | [p] => by rw [TL.joinL, List.flatten_cons, List.flatten_nil, List.append_nil]
  | p :: q :: r => by rw [TL.joinL, List.nil_append, joinL_flat (q :: r), ← List.flatten_cons]
def sign (c : Nat) : Str := ⟨#[c]⟩
theorem flat_signs : ∀ cs : List Nat, ((cs.map sign).map TL.tl).flatten = cs
  | [] => rfl
  | c :: cs => by
    rw [List.map_cons, List.map_cons, List.flatten_cons, flat_signs cs]
    rfl
theorem join_signs (cs : List Nat) : (Txt.join "" (cs.map sign)).cps.toList = cs := by
  have e := TL.tl_join "" (cs.map sign)
  rw [← TL.join_eq] at e
  have e2 : TL.tl ("" : Str) = [] := rfl
  rw [e2, joinL_flat, flat_signs] at e
  exact e
theorem len_tl (x : Str) : x.length = x.cps.toList.length := by
  simp [Str.length]
theorem nmOk_of {x : Str} (h1 : 1 ≤ x.cps.toList.length) (h2 : x.cps.toList.length ≤ 8) (h3 : ∀ c ∈ x.cps.toList, c ∈ letters.cps.toList) : NmOk x := ⟨by rw [len_tl]; exact h1, by rw [len_tl]; exact h2, h3⟩
theorem sum_one : ∀ cs : List Nat, ((cs.map sign).map (·.length)).sum = cs.length
  | [] => rfl
  | c :: cs => by
    rw [List.map_cons, List.map_cons, List.sum_cons, sum_one cs, List.length_cons]
    show 1 + _ = _
    omega
theorem letters_len : letters.cps.toList.length = 26 := by decide +kernel
theorem letters_nodup : letters.cps.toList.Nodup := by decide +kernel
theorem strL_flat (ts : List Str) : ∀ x ∈ ts.map V.str, flatV x = true := fun x hx => by
  obtain ⟨y, _, rfl⟩ := List.mem_map.mp hx
  rfl
theorem in_strL {x : Str} {ts : List Str} : inV (.str x) (ts.map V.str) = decide (x ∈ ts) := by
  unfold inV
  induction ts with
  | nil => rfl
  | cons t r ih =>
    rw [List.map_cons, List.any_cons, ih]
    show ((t == x) || decide (x ∈ r)) = _
    by_cases e : t = x
    · subst e
      rw [beq_self_eq_true, decide_eq_true List.mem_cons_self]
      rfl
    · rw [beq_false_of_ne e, Bool.false_or]
      by_cases m : x ∈ r
      · rw [decide_eq_true m, decide_eq_true (List.mem_cons_of_mem _ m)]
      · rw [decide_eq_false m, decide_eq_false fun h => by
          rcases List.mem_cons.mp h with h | h
          · exact e h.symm
          · exact m h]
/-- among 26 letters there is one that isn't taken -/
theorem free_letter {ts : List Str} (h : ts.length ≤ 25) : ∃ c ∈ letters.cps.toList, sign c ∉ ts := by
  apply Classical.byContradiction
  intro no
  have all : ∀ c ∈ letters.cps.toList, sign c ∈ ts := fun c hc => Classical.byContradiction fun n => no ⟨c, hc, n⟩
  have nd : (letters.cps.toList.map sign).Nodup := by
    refine List.Pairwise.map (R := fun a b => a ≠ b) sign (fun a b n e => n ?_) letters_nodup
    have := congrArg (fun x : Str => x.cps.toList) e
    exact (List.cons_eq_cons.mp (show [a] = [b] from this)).1
  have sub : ∀ x ∈ letters.cps.toList.map sign, x ∈ ts := fun x hx => by
    obtain ⟨c, hc, rfl⟩ := List.mem_map.mp hx
    exact all c hc
  have := nodup_len nd sub
  rw [List.length_map, letters_len] at this
  omega
end Sw
namespace Sw
open PySem PySem.Spec PyProof.Rows L2
/-! ### nodes of sixteen sorts -/
def natV (n : Nat) : V := .int (n : Int)
def Dig (n : Nat) : Prop := 1 ≤ n ∧ n ≤ 8
inductive Nk
  | inlet
  | outlet
  | gain (b : Int)
  | mix (n : Nat)
  | times
  | clip (lo hi : Int)
  | share (b : Nat)
  | choose
  | own (ts : List Nat) (g : Nat)
  | taps (xs : List Int)
  | latch
  | count (a st z : Int)
  | tape (xs : List Int) (ag : Bool)
  | up (n : Nat) (h : Bool)
  | down (n : Nat)
  | resample (u d : Nat)
inductive Srt
  | inlet | outlet | gain | mix | times | clip | share | choose | own | taps | latch | count | tape | up | down | resample
  deriving DecidableEq
def srt : Nk → Srt
  | .inlet => .inlet
  | .outlet => .outlet
  | .gain _ => .gain
  | .mix _ => .mix
  | .times => .times
  | .clip _ _ => .clip
  | .share _ => .share
  | .choose => .choose
  | .own _ _ => .own
  | .taps _ => .taps
  | .latch => .latch
  | .count _ _ _ => .count
  | .tape _ _ => .tape
  | .up _ _ => .up
  | .down _ => .down
  | .resample _ _ => .resample
def NkOk : Nk → Prop
  | .mix n => Dig n
  | .clip lo hi => lo ≤ hi
  | .share b => 1 ≤ b
  | .own ts g => 1 ≤ ts.length ∧ ts.length ≤ 4 ∧ (∀ t ∈ ts, Dig t) ∧ Dig g
  | .taps xs => 1 ≤ xs.length ∧ xs.length ≤ 12
  | .count _ _ z => 0 ≤ z
  | .tape xs _ => 1 ≤ xs.length ∧ xs.length ≤ 60
  | .up n _ => Dig n
  | .down n => Dig n
  | .resample u d => Dig u ∧ Dig d
  | _ => True
def isEnd : Nk → Bool
  | .inlet => true
  | .outlet => true
  | _ => false
/-- how late, when it begins -/
def LbOk (k : Nk) (lt bg : Nat) : Prop := lt ≤ 99 ∧ bg ≤ 9999 ∧ (isEnd k = true → lt = 0 ∧ bg = 0)
def tksN : Nk → List Nat
  | .inlet => []
  | .mix n => List.replicate n 1
  | .times => [1, 1]
  | .choose => [1, 1, 1]
  | .own ts _ => ts
  | .latch => [1, 1]
  | .down n => [n]
  | .resample _ d => [d]
  | _ => [1]
def gvsN : Nk → Nat
  | .outlet => 0
  | .own _ g => g
  | .up n _ => n
  | .resample u _ => u
  | _ => 1
def argN (dd x : Addr) (lt bg : Nat) : Nk → List V
  | .inlet => []
  | .outlet => []
  | .gain b => [.int b, natV lt, natV bg]
  | .mix n => [natV n, natV lt, natV bg]
  | .times => [natV lt, natV bg]
  | .clip lo hi => [.int lo, .int hi, natV lt, natV bg]
  | .share b => [natV b, natV lt, natV bg]
  | .choose => [natV lt, natV bg]
  | .own _ g => [.ref dd, .ref x, natV g, .int 0, natV lt, natV bg]
  | .taps _ => [.ref x, natV lt, natV bg]
  | .latch => [natV lt, natV bg]
  | .count a st z => [.int a, .int st, .int z, natV lt, natV bg]
  | .tape _ ag => [.ref x, .bl ag, natV lt, natV bg]
  | .up n h => [natV n, .bl h, natV lt, natV bg]
  | .down n => [natV n, natV lt, natV bg]
  | .resample u d => [natV u, natV d, .ref x, natV lt, natV bg]
def ownN (dd x : Addr) : Nk → List (Str × V)
  | .gain b => [("by", .int b)]
  | .mix n => [("many", natV n)]
  | .clip lo hi => [("high", .int hi), ("low", .int lo)]
  | .share b => [("by", natV b)]
  | .own _ g => [("first", .int 0), ("given", natV g), ("taken", .ref x), ("deed", .ref dd)]
  | .taps _ => [("numbers", .ref x)]
  | .count a st z => [("size", .int z), ("step", .int st), ("first", .int a)]
  | .tape _ ag => [("again", .bl ag), ("numbers", .ref x)]
  | .up n h => [("hold", .bl h), ("many", natV n)]
  | .down n => [("many", natV n)]
  | .resample u d => [("down", natV d), ("up", natV u), ("numbers", .ref x)]
  | _ => []
def auxI (K : PySem.W.Frag) (H : Hp) (x : Addr) : Nk → Prop
  | .own ts _ => SqT K H x (ts.map natV)
  | .taps xs => H x = some (.lst (xs.map V.int))
  | .tape xs _ => H x = some (.lst (xs.map V.int))
  | .resample _ _ => H x = some (.lst ([1, 2].map V.int))
  | _ => True
def auxO (K : PySem.W.Frag) (H : Hp) (x : Addr) : Nk → Prop
  | .own ts _ => SqT K H x (ts.map natV)
  | _ => True
/-- the fields of a node -/
structure NdF (fs own : List (Str × V)) (tm : Addr) (l b : Int) : Prop where
  made : fs.lookup ("made" : Str) = some (.ref tm)
  late : fs.lookup ("late_by" : Str) = some (.int l)
  be : fs.lookup ("begin_at" : Str) = some (.int b)
  fld : ∀ (m : Str) (x : V), own.lookup m = some x → fs.lookup m = some x
  no : ∀ m : Str, own.lookup m = none → m ≠ "begin_at" → m ≠ "late_by" → m ≠ "made" → fs.lookup m = none
theorem ndF_mk {tm : Addr} {l b : Int} {fs own : List (Str × V)} (h : ∀ m : Str, fs.lookup m = own.lookup m) (n1 : own.lookup ("begin_at" : Str) = none) (n2 : own.lookup ("late_by" : Str) = none) (n3 : own.lookup ("made" : Str) = none) : NdF (nodeF tm l b fs) own tm l b := by
  refine ⟨?_, ?_, nodeF_be _ _ _ _, fun m x e => ?_, fun m e h3 h4 h5 => ?_⟩
  · unfold nodeF
    rw [lookup_putF, if_neg (by decide +kernel), lookup_putF, if_neg (by decide +kernel), lookup_putF, if_pos rfl]
  · unfold nodeF
    rw [lookup_putF, if_neg (by decide +kernel), lookup_putF, if_pos rfl]
  · rw [nodeF_no (fun z => by rw [z, n1] at e; cases e) (fun z => by rw [z, n2] at e; cases e) (fun z => by rw [z, n3] at e; cases e), h]
    exact e
  · rw [nodeF_no h3 h4 h5, h]
    exact e
theorem NdF.put {fs own : List (Str × V)} {tm : Addr} {l b : Int} (h : NdF fs own tm l b) (m : Str) (x : V) (n : m ≠ "begin_at") (n2 : m ≠ "late_by") (n3 : m ≠ "made") : NdF (putF m x fs) ((m, x) :: own) tm l b := by
  refine ⟨?_, ?_, ?_, fun m' x' e => ?_, fun m' e h3 h4 h5 => ?_⟩
  · rw [lookup_putF, if_neg (Ne.symm n3)]
    exact h.made
  · rw [lookup_putF, if_neg (Ne.symm n2)]
    exact h.late
  · rw [lookup_putF, if_neg (Ne.symm n)]
    exact h.be
  · rw [lookup_putF]
    rw [List.lookup_cons] at e
    by_cases z : m' = m
    · rw [if_pos z]
      rw [z, beq_self_eq_true] at e
      exact e
    · rw [if_neg z]
      rw [beq_false_of_ne z] at e
      exact h.fld m' x' e
  · rw [lookup_putF]
    rw [List.lookup_cons] at e
    by_cases z : m' = m
    · rw [z, beq_self_eq_true] at e
      cases e
    · rw [if_neg z]
      rw [beq_false_of_ne z] at e
      exact h.no m' e h3 h4 h5
/-- what an __init__ of such a sort does -/
def spMk (K : PySem.W.Frag) (A : Srt) (C dd : Addr) : Sp := fun vs H Q _ => ∃ (p dx x : Addr) (k : Nk) (lt bg : Nat), vs = .ref p :: argN dd x lt bg k ∧ srt k = A ∧ NkOk k ∧ LbOk k lt bg ∧ auxI K H x k ∧ H p = some (.ins C dx []) ∧
  ∀ (fs : List (Str × V)) (tm x' : Addr) (H' : Hp), Kept p H H' → H' p = some (.ins C dx fs) → NdF fs (ownN dd x' k) tm (lt : Int) (bg : Int) → auxO K H' x' k → Q .non H'
theorem KT.ins {K : PySem.W.Frag} {H : Hp} {p C dx : Addr} {fs : List (Str × V)} {o : HO} (hp : H p = some (.ins C dx fs)) : KT K H (L2.upd H p o) := fun q xs h => by
  rcases h with (h | ⟨u, h⟩) | h
  · exact .inl (.inl (by rw [upd_ne (fun z => by rw [z, hp] at h; cases h)]; exact h))
  · exact .inl (.inr ⟨u, by rw [upd_ne (fun z => by rw [z, hp] at h; cases h)]; exact h⟩)
  · exact .inr h
/-- behind Node.__init__ -/
theorem node_step {K : PySem.W.Frag} {H : Hp} {p C dx tm : Addr} {fs fs' : List (Str × V)} {xs : List V} (hp : H p = some (.ins C dx fs)) (htm : H tm = none) :
    Kept p H (L2.upd (L2.upd H tm (.tup xs)) p (.ins C dx fs')) ∧ SqT K (L2.upd (L2.upd H tm (.tup xs)) p (.ins C dx fs')) tm xs ∧ KT K H (L2.upd (L2.upd H tm (.tup xs)) p (.ins C dx fs')) := by
  have n : tm ≠ p := (ne_of_none hp htm).symm
  have s := Same.new (o := .tup xs) (Same.refl H) htm
  refine ⟨Kept.upd (Kept.same s), .inl (.inl ?_), (KT.same s).trans (KT.ins (s _ _ hp))⟩
  rw [upd_ne n]
  exact upd_same
theorem ty_tup {K : PySem.W.Frag} {H : Hp} {a : Addr} {xs : List V} (h : SqT K H a xs) : TyX K H (.ref a) (.type "tuple") := by
  rcases h with (h | ⟨o, h⟩) | h
  · exact .base (.tup h)
  · exact .fTuple h
  · obtain ⟨o, _, _, e, c, _⟩ := h
    exact .kTuple e c
def spWholesIn (K : PySem.W.Frag) : Sp := fun vs H Q _ => ∃ (t : Addr) (ts : List Nat), vs = [.ref t, .int 1, .int 8] ∧ SqT K H t (ts.map natV) ∧ ts.length ≤ 4 ∧ (∀ n ∈ ts, Dig n) ∧ ∀ H', Same H H' → Q (.bl true) H'
section
variable {P : Program} {w : World} {K : PySem.W.Frag} {mg : Str → Option Value} {base : Heap} {f f1 f2 f3 f4 f5 f6 f7 f8 f9 C CN CO CI CW dd : Addr} {fd fd1 fd2 fd3 fd4 fd5 fd6 fd7 fd8 fd9 : FuncData}
abbrev nAreWholesWithin : List Str := ["things", "least", "most", "thing"]
theorem scAreWholesWithin : FnScope nAreWholesWithin ["things", "least", "most"] (defScope sAreWholesWithin) := ⟨rfl, rfl, rfl, by decide +kernel, rfl, by decide +kernel, by decide +kernel⟩
theorem ok_wholesIn (F : FnP K "are_wholes_within" sAreWholesWithin f fd) (GW : FnOk P w K mg base CX0 2 f2 fd2 ["thing", "least", "most"] (spWithin K)) (gW : mg "is_whole_within" = some (.ref f2)) (kW : PySem.W.keepIn K (.ref f2) = true) (bW : Binds K fd2 ["thing", "least", "most"] []) (gAll : mg "all" = none) : FnOk P w K mg base CX0 3 f fd ["things", "least", "most"] (spWholesIn K) := by
  refine F.ok scAreWholesWithin (fun vs H Q E h => ?_) (fun cdv A ou s H vs Q E hr h => ?_)
  · obtain ⟨t, ts, rfl, _⟩ := h
    rfl
  · obtain ⟨t, ts, rfl, ht, few, dig, kk⟩ := h
    have nd := scAreWholesWithin.nd
    have hr2 : Room 2 _ := hr
    refine ⟨_, PSs.nox (pss_one (ps_ret (pe_callB (cr_all rfl) (by rfl) gAll (by decide +kernel) (pa_cons (pe_lc (own := [("thing", 3)]) (g := (gName 3)) (tt := tYes) rfl nd (pi_tup (pv 0)) (blkOk_by (N := nAreWholesWithin) (sc := defScope sAreWholesWithin) (by decide +kernel))
        (fun _ _ _ _ _ => (pg_name (i := 3) nd rfl (Or.inl rfl))) (fun _ _ _ _ _ => pts_nil) (fun _ _ _ _ _ => (pe_call GW hr2 rfl gW kW bW .nil pass0 (pa_cons (pv 3) (pa_cons (pv 1) (pa_cons (pv 2) pa_nil)))))) pa_nil)))), ?_⟩
    refine ⟨_, rfl, t, rfl, ⟨_, ht⟩, fun D hD => ?_⟩
    refine lc_it (walk_tup (xs := ts.map natV)) (fun j H' => H' D = some (.lst ((List.replicate j true).map V.bl)) ∧ Same H H') ⟨upd_same, Same.past (Same.refl _) hD⟩ (fun j H' _ e => Same.tup e.2 ht) (fun j v H' H'' hj e y => ?_) (fun H' e => ?_)
    · obtain ⟨hd, sm⟩ := e
      obtain ⟨rfl, ev⟩ := y
      rw [List.getElem?_map] at ev
      obtain ⟨n, en, rfl⟩ := Option.map_eq_some_iff.mp ev
      have dn := dig n (List.mem_of_getElem? en)
      have jl := (List.getElem?_eq_some_iff.mp en).1
      refine ⟨rfl, ?_⟩
      refine yes_ite ?_
      refine ⟨_, rfl, _, rfl, _, rfl, _, 1, 8, rfl, .inl ⟨_, rfl, ?_⟩⟩
      have d1 := dn.1
      have d2 := dn.2
      rw [show decide ((1 : Int) ≤ (n : Int) ∧ (n : Int) ≤ 8) = true from decide_eq_true (by omega)]
      refine ⟨_, hd, ?_, ?_, Same.past sm hD⟩
      · rw [List.length_map, List.length_replicate]
        exact Nat.lt_of_lt_of_le (show j < 100 by omega) (by decide)
      · rw [List.replicate_succ', List.map_append]
        exact upd_same
    · obtain ⟨hd, sm⟩ := e
      refine ⟨D, _, rfl, SqL.of hd, ?_⟩
      rw [all_true]
      exact kk _ sm
abbrev nInletInit : List Str := ["self"]
theorem scInletInit : FnScope nInletInit ["self"] (defScope sInletInit) := ⟨rfl, rfl, rfl, by decide +kernel, rfl, by decide +kernel, by decide +kernel⟩
theorem ok_inletInit {dvs : List V} {kws : List (Str × V)} (F : FunD K "__init__" "Inlet.__init__" (defArgs sInletInit) (defBody sInletInit) (defScope sInletInit) dvs kws f fd)
    (GB : FnOk P w K mg base CX0 3 f3 fd3 ["self", "arguments", "late", "begin"] (spNodeInit K C)) (gB : mg "Node" = some (.ref CN)) (mB : BaseM K CN "__init__" f3) (bB : Binds K fd3 ["self", "arguments", "late", "begin"] []) (T : NodeC K C) : FnOk P w K mg base CX0 4 f fd ["self"] (spMk K .inlet C dd) := by
  refine F.ok scInletInit (fun vs H Q E h => ?_) (fun cdv A ou s H vs Q E hr h => ?_)
  · obtain ⟨p, dx, x, k, lt, bg, rfl, e, _⟩ := h
    cases k with
    | inlet => rfl
    | _ => cases e
  · obtain ⟨p, dx, x, k, lt, bg, rfl, e, ok, ⟨lt9, bg9, ends⟩, au, hp, kk⟩ := h
    have hr2 : Room 2 _ := hr.mono (by decide)
    have hr1 : Room 1 _ := hr.mono (by decide)
    have nd := scInletInit.nd
    cases k with
    | inlet =>
      refine ⟨_, PSs.nox (pss_one (ps_expr (pe_base (pe_glob (v := .ref CN) rfl gB rfl) mB GB hr bB .nil pass0 (pa_cons (pv 0) (pa_cons (pe_tup pa_nil) (pa_cons pe_int (pa_cons pe_int pa_nil))))))), ?_⟩
      obtain ⟨rfl, rfl⟩ := ends rfl
      refine ⟨rfl, _, rfl, (by show 0 ≤ sizeLine; decide), fun t ht => ?_⟩
      have hp4 := Same.new (o := .tup []) (Same.refl H) ht _ _ hp
      have kt4 : KT K H (upd H t (.tup [])) := KT.same (Same.new (Same.refl H) ht)
      have kp4 : Kept p H (upd H t (.tup [])) := Kept.same (Same.new (Same.refl H) ht)
      refine ⟨p, t, dx, [], _, 0, 0, rfl, hp4, .inl (.inl upd_same), by decide, by decide, (by show 0 < 900; decide), (by show 0 ≤ 1000; decide), fun tm htm => ?_⟩
      obtain ⟨kp5, tm5, kt5⟩ := node_step (K := K) (fs' := nodeF tm 0 0 []) (xs := [] ++ [.int 0, .int 0]) hp4 htm
      have hp5 : upd (upd (upd H t (.tup [])) tm (.tup ([] ++ [.int 0, .int 0]))) p (.ins C dx (nodeF tm 0 0 [])) p = some (.ins C dx (nodeF tm 0 0 [])) := upd_same
      generalize upd (upd (upd H t (.tup [])) tm (.tup ([] ++ [.int 0, .int 0]))) p (.ins C dx (nodeF tm 0 0 [])) = G5 at kp5 tm5 kt5 hp5
      exact kk _ tm x _ (kp4.trans kp5) hp5 (ndF_mk (own := []) (fun m => rfl) rfl rfl rfl) trivial
    | _ => cases e
abbrev nOutletInit : List Str := ["self"]
theorem scOutletInit : FnScope nOutletInit ["self"] (defScope sOutletInit) := ⟨rfl, rfl, rfl, by decide +kernel, rfl, by decide +kernel, by decide +kernel⟩
theorem ok_outletInit {dvs : List V} {kws : List (Str × V)} (F : FunD K "__init__" "Outlet.__init__" (defArgs sOutletInit) (defBody sOutletInit) (defScope sOutletInit) dvs kws f fd)
    (GB : FnOk P w K mg base CX0 3 f3 fd3 ["self", "arguments", "late", "begin"] (spNodeInit K C)) (gB : mg "Node" = some (.ref CN)) (mB : BaseM K CN "__init__" f3) (bB : Binds K fd3 ["self", "arguments", "late", "begin"] []) (T : NodeC K C) : FnOk P w K mg base CX0 4 f fd ["self"] (spMk K .outlet C dd) := by
  refine F.ok scOutletInit (fun vs H Q E h => ?_) (fun cdv A ou s H vs Q E hr h => ?_)
  · obtain ⟨p, dx, x, k, lt, bg, rfl, e, _⟩ := h
    cases k with
    | outlet => rfl
    | _ => cases e
  · obtain ⟨p, dx, x, k, lt, bg, rfl, e, ok, ⟨lt9, bg9, ends⟩, au, hp, kk⟩ := h
    have hr2 : Room 2 _ := hr.mono (by decide)
    have hr1 : Room 1 _ := hr.mono (by decide)
    have nd := scOutletInit.nd
    cases k with
    | outlet =>
      refine ⟨_, PSs.nox (pss_one (ps_expr (pe_base (pe_glob (v := .ref CN) rfl gB rfl) mB GB hr bB .nil pass0 (pa_cons (pv 0) (pa_cons (pe_tup pa_nil) (pa_cons pe_int (pa_cons pe_int pa_nil))))))), ?_⟩
      obtain ⟨rfl, rfl⟩ := ends rfl
      refine ⟨rfl, _, rfl, (by show 0 ≤ sizeLine; decide), fun t ht => ?_⟩
      have hp4 := Same.new (o := .tup []) (Same.refl H) ht _ _ hp
      have kt4 : KT K H (upd H t (.tup [])) := KT.same (Same.new (Same.refl H) ht)
      have kp4 : Kept p H (upd H t (.tup [])) := Kept.same (Same.new (Same.refl H) ht)
      refine ⟨p, t, dx, [], _, 0, 0, rfl, hp4, .inl (.inl upd_same), by decide, by decide, (by show 0 < 900; decide), (by show 0 ≤ 1000; decide), fun tm htm => ?_⟩
      obtain ⟨kp5, tm5, kt5⟩ := node_step (K := K) (fs' := nodeF tm 0 0 []) (xs := [] ++ [.int 0, .int 0]) hp4 htm
      have hp5 : upd (upd (upd H t (.tup [])) tm (.tup ([] ++ [.int 0, .int 0]))) p (.ins C dx (nodeF tm 0 0 [])) p = some (.ins C dx (nodeF tm 0 0 [])) := upd_same
      generalize upd (upd (upd H t (.tup [])) tm (.tup ([] ++ [.int 0, .int 0]))) p (.ins C dx (nodeF tm 0 0 [])) = G5 at kp5 tm5 kt5 hp5
      exact kk _ tm x _ (kp4.trans kp5) hp5 (ndF_mk (own := []) (fun m => rfl) rfl rfl rfl) trivial
    | _ => cases e
abbrev nTimesInit : List Str := ["self", "late", "begin"]
theorem scTimesInit : FnScope nTimesInit ["self", "late", "begin"] (defScope sTimesInit) := ⟨rfl, rfl, rfl, by decide +kernel, rfl, by decide +kernel, by decide +kernel⟩
theorem ok_timesInit {dvs : List V} {kws : List (Str × V)} (F : FunD K "__init__" "Times.__init__" (defArgs sTimesInit) (defBody sTimesInit) (defScope sTimesInit) dvs kws f fd)
    (GB : FnOk P w K mg base CX0 3 f3 fd3 ["self", "arguments", "late", "begin"] (spNodeInit K C)) (gB : mg "Node" = some (.ref CN)) (mB : BaseM K CN "__init__" f3) (bB : Binds K fd3 ["self", "arguments", "late", "begin"] []) (T : NodeC K C) : FnOk P w K mg base CX0 4 f fd ["self", "late", "begin"] (spMk K .times C dd) := by
  refine F.ok scTimesInit (fun vs H Q E h => ?_) (fun cdv A ou s H vs Q E hr h => ?_)
  · obtain ⟨p, dx, x, k, lt, bg, rfl, e, _⟩ := h
    cases k with
    | times => rfl
    | _ => cases e
  · obtain ⟨p, dx, x, k, lt, bg, rfl, e, ok, ⟨lt9, bg9, ends⟩, au, hp, kk⟩ := h
    have hr2 : Room 2 _ := hr.mono (by decide)
    have hr1 : Room 1 _ := hr.mono (by decide)
    have nd := scTimesInit.nd
    cases k with
    | times =>
      refine ⟨_, PSs.nox (pss_one (ps_expr (pe_base (pe_glob (v := .ref CN) rfl gB rfl) mB GB hr bB .nil pass0 (pa_cons (pv 0) (pa_cons (pe_tup pa_nil) (pa_cons (pv 1) (pa_cons (pv 2) pa_nil))))))), ?_⟩
      refine ⟨rfl, _, rfl, (by show 0 ≤ sizeLine; decide), fun t ht => ?_⟩
      have hp4 := Same.new (o := .tup []) (Same.refl H) ht _ _ hp
      have kt4 : KT K H (upd H t (.tup [])) := KT.same (Same.new (Same.refl H) ht)
      have kp4 : Kept p H (upd H t (.tup [])) := Kept.same (Same.new (Same.refl H) ht)
      refine ⟨_, rfl, _, rfl, p, t, dx, [], _, (lt : Int), (bg : Int), rfl, hp4, .inl (.inl upd_same), by omega, by omega, (by show 0 < 900; decide), (by show 0 ≤ 1000; decide), fun tm htm => ?_⟩
      obtain ⟨kp5, tm5, kt5⟩ := node_step (K := K) (fs' := nodeF tm (lt : Int) (bg : Int) []) (xs := [] ++ [.int (lt : Int), .int (bg : Int)]) hp4 htm
      have hp5 : upd (upd (upd H t (.tup [])) tm (.tup ([] ++ [.int (lt : Int), .int (bg : Int)]))) p (.ins C dx (nodeF tm (lt : Int) (bg : Int) [])) p = some (.ins C dx (nodeF tm (lt : Int) (bg : Int) [])) := upd_same
      generalize upd (upd (upd H t (.tup [])) tm (.tup ([] ++ [.int (lt : Int), .int (bg : Int)]))) p (.ins C dx (nodeF tm (lt : Int) (bg : Int) [])) = G5 at kp5 tm5 kt5 hp5
      exact kk _ tm x _ (kp4.trans kp5) hp5 (ndF_mk (own := []) (fun m => rfl) rfl rfl rfl) trivial
    | _ => cases e
abbrev nChooseInit : List Str := ["self", "late", "begin"]
theorem scChooseInit : FnScope nChooseInit ["self", "late", "begin"] (defScope sChooseInit) := ⟨rfl, rfl, rfl, by decide +kernel, rfl, by decide +kernel, by decide +kernel⟩
theorem ok_chooseInit {dvs : List V} {kws : List (Str × V)} (F : FunD K "__init__" "Choose.__init__" (defArgs sChooseInit) (defBody sChooseInit) (defScope sChooseInit) dvs kws f fd)
    (GB : FnOk P w K mg base CX0 3 f3 fd3 ["self", "arguments", "late", "begin"] (spNodeInit K C)) (gB : mg "Node" = some (.ref CN)) (mB : BaseM K CN "__init__" f3) (bB : Binds K fd3 ["self", "arguments", "late", "begin"] []) (T : NodeC K C) : FnOk P w K mg base CX0 4 f fd ["self", "late", "begin"] (spMk K .choose C dd) := by
  refine F.ok scChooseInit (fun vs H Q E h => ?_) (fun cdv A ou s H vs Q E hr h => ?_)
  · obtain ⟨p, dx, x, k, lt, bg, rfl, e, _⟩ := h
    cases k with
    | choose => rfl
    | _ => cases e
  · obtain ⟨p, dx, x, k, lt, bg, rfl, e, ok, ⟨lt9, bg9, ends⟩, au, hp, kk⟩ := h
    have hr2 : Room 2 _ := hr.mono (by decide)
    have hr1 : Room 1 _ := hr.mono (by decide)
    have nd := scChooseInit.nd
    cases k with
    | choose =>
      refine ⟨_, PSs.nox (pss_one (ps_expr (pe_base (pe_glob (v := .ref CN) rfl gB rfl) mB GB hr bB .nil pass0 (pa_cons (pv 0) (pa_cons (pe_tup pa_nil) (pa_cons (pv 1) (pa_cons (pv 2) pa_nil))))))), ?_⟩
      refine ⟨rfl, _, rfl, (by show 0 ≤ sizeLine; decide), fun t ht => ?_⟩
      have hp4 := Same.new (o := .tup []) (Same.refl H) ht _ _ hp
      have kt4 : KT K H (upd H t (.tup [])) := KT.same (Same.new (Same.refl H) ht)
      have kp4 : Kept p H (upd H t (.tup [])) := Kept.same (Same.new (Same.refl H) ht)
      refine ⟨_, rfl, _, rfl, p, t, dx, [], _, (lt : Int), (bg : Int), rfl, hp4, .inl (.inl upd_same), by omega, by omega, (by show 0 < 900; decide), (by show 0 ≤ 1000; decide), fun tm htm => ?_⟩
      obtain ⟨kp5, tm5, kt5⟩ := node_step (K := K) (fs' := nodeF tm (lt : Int) (bg : Int) []) (xs := [] ++ [.int (lt : Int), .int (bg : Int)]) hp4 htm
      have hp5 : upd (upd (upd H t (.tup [])) tm (.tup ([] ++ [.int (lt : Int), .int (bg : Int)]))) p (.ins C dx (nodeF tm (lt : Int) (bg : Int) [])) p = some (.ins C dx (nodeF tm (lt : Int) (bg : Int) [])) := upd_same
      generalize upd (upd (upd H t (.tup [])) tm (.tup ([] ++ [.int (lt : Int), .int (bg : Int)]))) p (.ins C dx (nodeF tm (lt : Int) (bg : Int) [])) = G5 at kp5 tm5 kt5 hp5
      exact kk _ tm x _ (kp4.trans kp5) hp5 (ndF_mk (own := []) (fun m => rfl) rfl rfl rfl) trivial
    | _ => cases e
abbrev nLatchInit : List Str := ["self", "late", "begin"]
theorem scLatchInit : FnScope nLatchInit ["self", "late", "begin"] (defScope sLatchInit) := ⟨rfl, rfl, rfl, by decide +kernel, rfl, by decide +kernel, by decide +kernel⟩
theorem ok_latchInit {dvs : List V} {kws : List (Str × V)} (F : FunD K "__init__" "Latch.__init__" (defArgs sLatchInit) (defBody sLatchInit) (defScope sLatchInit) dvs kws f fd)
    (GB : FnOk P w K mg base CX0 3 f3 fd3 ["self", "arguments", "late", "begin"] (spNodeInit K C)) (gB : mg "Node" = some (.ref CN)) (mB : BaseM K CN "__init__" f3) (bB : Binds K fd3 ["self", "arguments", "late", "begin"] []) (T : NodeC K C) : FnOk P w K mg base CX0 4 f fd ["self", "late", "begin"] (spMk K .latch C dd) := by
  refine F.ok scLatchInit (fun vs H Q E h => ?_) (fun cdv A ou s H vs Q E hr h => ?_)
  · obtain ⟨p, dx, x, k, lt, bg, rfl, e, _⟩ := h
    cases k with
    | latch => rfl
    | _ => cases e
  · obtain ⟨p, dx, x, k, lt, bg, rfl, e, ok, ⟨lt9, bg9, ends⟩, au, hp, kk⟩ := h
    have hr2 : Room 2 _ := hr.mono (by decide)
    have hr1 : Room 1 _ := hr.mono (by decide)
    have nd := scLatchInit.nd
    cases k with
    | latch =>
      refine ⟨_, PSs.nox (pss_one (ps_expr (pe_base (pe_glob (v := .ref CN) rfl gB rfl) mB GB hr bB .nil pass0 (pa_cons (pv 0) (pa_cons (pe_tup pa_nil) (pa_cons (pv 1) (pa_cons (pv 2) pa_nil))))))), ?_⟩
      refine ⟨rfl, _, rfl, (by show 0 ≤ sizeLine; decide), fun t ht => ?_⟩
      have hp4 := Same.new (o := .tup []) (Same.refl H) ht _ _ hp
      have kt4 : KT K H (upd H t (.tup [])) := KT.same (Same.new (Same.refl H) ht)
      have kp4 : Kept p H (upd H t (.tup [])) := Kept.same (Same.new (Same.refl H) ht)
      refine ⟨_, rfl, _, rfl, p, t, dx, [], _, (lt : Int), (bg : Int), rfl, hp4, .inl (.inl upd_same), by omega, by omega, (by show 0 < 900; decide), (by show 0 ≤ 1000; decide), fun tm htm => ?_⟩
      obtain ⟨kp5, tm5, kt5⟩ := node_step (K := K) (fs' := nodeF tm (lt : Int) (bg : Int) []) (xs := [] ++ [.int (lt : Int), .int (bg : Int)]) hp4 htm
      have hp5 : upd (upd (upd H t (.tup [])) tm (.tup ([] ++ [.int (lt : Int), .int (bg : Int)]))) p (.ins C dx (nodeF tm (lt : Int) (bg : Int) [])) p = some (.ins C dx (nodeF tm (lt : Int) (bg : Int) [])) := upd_same
      generalize upd (upd (upd H t (.tup [])) tm (.tup ([] ++ [.int (lt : Int), .int (bg : Int)]))) p (.ins C dx (nodeF tm (lt : Int) (bg : Int) [])) = G5 at kp5 tm5 kt5 hp5
      exact kk _ tm x _ (kp4.trans kp5) hp5 (ndF_mk (own := []) (fun m => rfl) rfl rfl rfl) trivial
    | _ => cases e
abbrev nGainInit : List Str := ["self", "by", "late", "begin"]
theorem scGainInit : FnScope nGainInit ["self", "by", "late", "begin"] (defScope sGainInit) := ⟨rfl, rfl, rfl, by decide +kernel, rfl, by decide +kernel, by decide +kernel⟩
theorem ok_gainInit {dvs : List V} {kws : List (Str × V)} (F : FunD K "__init__" "Gain.__init__" (defArgs sGainInit) (defBody sGainInit) (defScope sGainInit) dvs kws f fd)
    (GB : FnOk P w K mg base CX0 3 f3 fd3 ["self", "arguments", "late", "begin"] (spNodeInit K C)) (gB : mg "Node" = some (.ref CN)) (mB : BaseM K CN "__init__" f3) (bB : Binds K fd3 ["self", "arguments", "late", "begin"] []) (T : NodeC K C)
    (GN : FnOk P w K mg base CX0 1 f1 fd1 ["holds", "field"] spNeed) (gN : mg "need" = some (.ref f1)) (kN : PySem.W.keepIn K (.ref f1) = true) (bN : Binds K fd1 ["holds", "field"] [])
    (GI : FnOk P w K mg base CX0 1 f4 fd4 ["thing"] (spWhole K)) (gI : mg "is_whole" = some (.ref f4)) (kI : PySem.W.keepIn K (.ref f4) = true) (bI : Binds K fd4 ["thing"] [])
    (nB : NoAttr K C "by") : FnOk P w K mg base CX0 4 f fd ["self", "by", "late", "begin"] (spMk K .gain C dd) := by
  refine F.ok scGainInit (fun vs H Q E h => ?_) (fun cdv A ou s H vs Q E hr h => ?_)
  · obtain ⟨p, dx, x, k, lt, bg, rfl, e, _⟩ := h
    cases k with
    | gain b => rfl
    | _ => cases e
  · obtain ⟨p, dx, x, k, lt, bg, rfl, e, ok, ⟨lt9, bg9, ends⟩, au, hp, kk⟩ := h
    have hr2 : Room 2 _ := hr.mono (by decide)
    have hr1 : Room 1 _ := hr.mono (by decide)
    have nd := scGainInit.nd
    cases k with
    | gain b =>
      refine ⟨_, PSs.nox (pss_cons (ps_expr (pe_call GN hr1 rfl gN kN bN .nil pass0 (pa_cons (pe_call GI hr1 rfl gI kI bI .nil pass0 (pa_cons (pv 1) pa_nil)) (pa_cons pe_str pa_nil))))
      (pss_cons (ps_expr (pe_base (pe_glob (v := .ref CN) rfl gB rfl) mB GB hr bB .nil pass0 (pa_cons (pv 0) (pa_cons (pe_tup (pa_cons (pv 1) pa_nil)) (pa_cons (pv 2) (pa_cons (pv 3) pa_nil))))))
      (pss_one (ps_fld (pv 0) (pv 1) rfl)))), ?_⟩
      refine ⟨_, rfl, _, rfl, .inl ⟨_, rfl, _, rfl, ?_⟩⟩
      refine ⟨rfl, _, rfl, _, rfl, (by show 1 ≤ sizeLine; decide), fun t ht => ?_⟩
      have hp4 := Same.new (o := .tup [V.int b]) (Same.refl H) ht _ _ hp
      have kt4 : KT K H (upd H t (.tup [V.int b])) := KT.same (Same.new (Same.refl H) ht)
      have kp4 : Kept p H (upd H t (.tup [V.int b])) := Kept.same (Same.new (Same.refl H) ht)
      refine ⟨_, rfl, _, rfl, p, t, dx, [], _, (lt : Int), (bg : Int), rfl, hp4, .inl (.inl upd_same), by omega, by omega, (by show 0 < 900; decide), (by show 1 ≤ 1000; decide), fun tm htm => ?_⟩
      obtain ⟨kp5, tm5, kt5⟩ := node_step (K := K) (fs' := nodeF tm (lt : Int) (bg : Int) []) (xs := [V.int b] ++ [.int (lt : Int), .int (bg : Int)]) hp4 htm
      have hp5 : upd (upd (upd H t (.tup [V.int b])) tm (.tup ([V.int b] ++ [.int (lt : Int), .int (bg : Int)]))) p (.ins C dx (nodeF tm (lt : Int) (bg : Int) [])) p = some (.ins C dx (nodeF tm (lt : Int) (bg : Int) [])) := upd_same
      generalize upd (upd (upd H t (.tup [V.int b])) tm (.tup ([V.int b] ++ [.int (lt : Int), .int (bg : Int)]))) p (.ins C dx (nodeF tm (lt : Int) (bg : Int) [])) = G5 at kp5 tm5 kt5 hp5
      refine ⟨_, rfl, _, rfl, p, C, dx, _, rfl, hp5, T.cl, nB, ?_, ?_⟩
      · exact Nat.lt_of_le_of_lt (nodeF_le _ _ _ _) (by show 0 + 3 < _; decide)
      exact kk _ tm x _ (Kept.upd (kp4.trans kp5)) upd_same (NdF.put (ndF_mk (own := []) (fun m => rfl) rfl rfl rfl) "by" _ (by decide +kernel) (by decide +kernel) (by decide +kernel)) trivial
    | _ => cases e
abbrev nShareInit : List Str := ["self", "by", "late", "begin"]
theorem scShareInit : FnScope nShareInit ["self", "by", "late", "begin"] (defScope sShareInit) := ⟨rfl, rfl, rfl, by decide +kernel, rfl, by decide +kernel, by decide +kernel⟩
theorem ok_shareInit {dvs : List V} {kws : List (Str × V)} (F : FunD K "__init__" "Share.__init__" (defArgs sShareInit) (defBody sShareInit) (defScope sShareInit) dvs kws f fd)
    (GB : FnOk P w K mg base CX0 3 f3 fd3 ["self", "arguments", "late", "begin"] (spNodeInit K C)) (gB : mg "Node" = some (.ref CN)) (mB : BaseM K CN "__init__" f3) (bB : Binds K fd3 ["self", "arguments", "late", "begin"] []) (T : NodeC K C)
    (GN : FnOk P w K mg base CX0 1 f1 fd1 ["holds", "field"] spNeed) (gN : mg "need" = some (.ref f1)) (kN : PySem.W.keepIn K (.ref f1) = true) (bN : Binds K fd1 ["holds", "field"] [])
    (GI : FnOk P w K mg base CX0 1 f4 fd4 ["thing"] (spWhole K)) (gI : mg "is_whole" = some (.ref f4)) (kI : PySem.W.keepIn K (.ref f4) = true) (bI : Binds K fd4 ["thing"] [])
    (nB : NoAttr K C "by") : FnOk P w K mg base CX0 4 f fd ["self", "by", "late", "begin"] (spMk K .share C dd) := by
  refine F.ok scShareInit (fun vs H Q E h => ?_) (fun cdv A ou s H vs Q E hr h => ?_)
  · obtain ⟨p, dx, x, k, lt, bg, rfl, e, _⟩ := h
    cases k with
    | share b => rfl
    | _ => cases e
  · obtain ⟨p, dx, x, k, lt, bg, rfl, e, ok, ⟨lt9, bg9, ends⟩, au, hp, kk⟩ := h
    have hr2 : Room 2 _ := hr.mono (by decide)
    have hr1 : Room 1 _ := hr.mono (by decide)
    have nd := scShareInit.nd
    cases k with
    | share b =>
      refine ⟨_, PSs.nox (pss_cons (ps_expr (pe_call GN hr1 rfl gN kN bN .nil pass0 (pa_cons (pe_and (pe_call GI hr1 rfl gI kI bI .nil pass0 (pa_cons (pv 1) pa_nil)) (pe_one (pe_cmpR op_gt (pv 1) pe_int (nomark _)))) (pa_cons pe_str pa_nil))))
      (pss_cons (ps_expr (pe_base (pe_glob (v := .ref CN) rfl gB rfl) mB GB hr bB .nil pass0 (pa_cons (pv 0) (pa_cons (pe_tup (pa_cons (pv 1) pa_nil)) (pa_cons (pv 2) (pa_cons (pv 3) pa_nil))))))
      (pss_one (ps_fld (pv 0) (pv 1) rfl)))), ?_⟩
      have b1 : 1 ≤ b := ok
      refine ⟨_, rfl, _, rfl, .inl ⟨_, rfl, _, rfl, iteT ?_⟩⟩
      refine ⟨_, rfl, _, _, rfl, rfl, .str "by", ?_, ?_⟩
      · show [V.bl (decide (0 < (b : Int))), V.str "by"] ++ [] = _
        rw [decide_eq_true (by omega)]
        rfl
      refine ⟨rfl, _, rfl, _, rfl, (by show 1 ≤ sizeLine; decide), fun t ht => ?_⟩
      have hp4 := Same.new (o := .tup [natV b]) (Same.refl H) ht _ _ hp
      have kt4 : KT K H (upd H t (.tup [natV b])) := KT.same (Same.new (Same.refl H) ht)
      have kp4 : Kept p H (upd H t (.tup [natV b])) := Kept.same (Same.new (Same.refl H) ht)
      refine ⟨_, rfl, _, rfl, p, t, dx, [], _, (lt : Int), (bg : Int), rfl, hp4, .inl (.inl upd_same), by omega, by omega, (by show 0 < 900; decide), (by show 1 ≤ 1000; decide), fun tm htm => ?_⟩
      obtain ⟨kp5, tm5, kt5⟩ := node_step (K := K) (fs' := nodeF tm (lt : Int) (bg : Int) []) (xs := [natV b] ++ [.int (lt : Int), .int (bg : Int)]) hp4 htm
      have hp5 : upd (upd (upd H t (.tup [natV b])) tm (.tup ([natV b] ++ [.int (lt : Int), .int (bg : Int)]))) p (.ins C dx (nodeF tm (lt : Int) (bg : Int) [])) p = some (.ins C dx (nodeF tm (lt : Int) (bg : Int) [])) := upd_same
      generalize upd (upd (upd H t (.tup [natV b])) tm (.tup ([natV b] ++ [.int (lt : Int), .int (bg : Int)]))) p (.ins C dx (nodeF tm (lt : Int) (bg : Int) [])) = G5 at kp5 tm5 kt5 hp5
      refine ⟨_, rfl, _, rfl, p, C, dx, _, rfl, hp5, T.cl, nB, ?_, ?_⟩
      · exact Nat.lt_of_le_of_lt (nodeF_le _ _ _ _) (by show 0 + 3 < _; decide)
      exact kk _ tm x _ (Kept.upd (kp4.trans kp5)) upd_same (NdF.put (ndF_mk (own := []) (fun m => rfl) rfl rfl rfl) "by" _ (by decide +kernel) (by decide +kernel) (by decide +kernel)) trivial
    | _ => cases e
abbrev nClipInit : List Str := ["self", "low", "high", "late", "begin"]
theorem scClipInit : FnScope nClipInit ["self", "low", "high", "late", "begin"] (defScope sClipInit) := ⟨rfl, rfl, rfl, by decide +kernel, rfl, by decide +kernel, by decide +kernel⟩
theorem ok_clipInit {dvs : List V} {kws : List (Str × V)} (F : FunD K "__init__" "Clip.__init__" (defArgs sClipInit) (defBody sClipInit) (defScope sClipInit) dvs kws f fd)
    (GB : FnOk P w K mg base CX0 3 f3 fd3 ["self", "arguments", "late", "begin"] (spNodeInit K C)) (gB : mg "Node" = some (.ref CN)) (mB : BaseM K CN "__init__" f3) (bB : Binds K fd3 ["self", "arguments", "late", "begin"] []) (T : NodeC K C)
    (GN : FnOk P w K mg base CX0 1 f1 fd1 ["holds", "field"] spNeed) (gN : mg "need" = some (.ref f1)) (kN : PySem.W.keepIn K (.ref f1) = true) (bN : Binds K fd1 ["holds", "field"] [])
    (GI : FnOk P w K mg base CX0 1 f4 fd4 ["thing"] (spWhole K)) (gI : mg "is_whole" = some (.ref f4)) (kI : PySem.W.keepIn K (.ref f4) = true) (bI : Binds K fd4 ["thing"] [])
    (nL : NoAttr K C "low") (nH : NoAttr K C "high") : FnOk P w K mg base CX0 4 f fd ["self", "low", "high", "late", "begin"] (spMk K .clip C dd) := by
  refine F.ok scClipInit (fun vs H Q E h => ?_) (fun cdv A ou s H vs Q E hr h => ?_)
  · obtain ⟨p, dx, x, k, lt, bg, rfl, e, _⟩ := h
    cases k with
    | clip lo hi => rfl
    | _ => cases e
  · obtain ⟨p, dx, x, k, lt, bg, rfl, e, ok, ⟨lt9, bg9, ends⟩, au, hp, kk⟩ := h
    have hr2 : Room 2 _ := hr.mono (by decide)
    have hr1 : Room 1 _ := hr.mono (by decide)
    have nd := scClipInit.nd
    cases k with
    | clip lo hi =>
      refine ⟨_, PSs.nox (pss_cons (ps_expr (pe_call GN hr1 rfl gN kN bN .nil pass0 (pa_cons (pe_call GI hr1 rfl gI kI bI .nil pass0 (pa_cons (pv 1) pa_nil)) (pa_cons pe_str pa_nil))))
      (pss_cons (ps_expr (pe_call GN hr1 rfl gN kN bN .nil pass0 (pa_cons (pe_and (pe_call GI hr1 rfl gI kI bI .nil pass0 (pa_cons (pv 2) pa_nil)) (pe_one (pe_cmpR op_le (pv 1) (pv 2) (nomark _)))) (pa_cons pe_str pa_nil))))
      (pss_cons (ps_expr (pe_base (pe_glob (v := .ref CN) rfl gB rfl) mB GB hr bB .nil pass0 (pa_cons (pv 0) (pa_cons (pe_tup (pa_cons (pv 1) (pa_cons (pv 2) pa_nil))) (pa_cons (pv 3) (pa_cons (pv 4) pa_nil))))))
      (pss_cons (ps_fld (pv 0) (pv 1) rfl)
      (pss_one (ps_fld (pv 0) (pv 2) rfl)))))), ?_⟩
      have lh : lo ≤ hi := ok
      refine ⟨_, rfl, _, rfl, .inl ⟨_, rfl, _, rfl, ?_⟩⟩
      refine ⟨_, rfl, _, rfl, .inl ⟨_, rfl, _, rfl, iteT ?_⟩⟩
      refine ⟨_, rfl, _, rfl, _, _, rfl, rfl, .str "high", ?_, ?_⟩
      · show [V.bl (decide (lo ≤ hi)), V.str "high"] ++ [] = _
        rw [decide_eq_true (lh)]
        rfl
      refine ⟨rfl, _, rfl, _, rfl, _, rfl, (by show 2 ≤ sizeLine; decide), fun t ht => ?_⟩
      have hp4 := Same.new (o := .tup [V.int lo, V.int hi]) (Same.refl H) ht _ _ hp
      have kt4 : KT K H (upd H t (.tup [V.int lo, V.int hi])) := KT.same (Same.new (Same.refl H) ht)
      have kp4 : Kept p H (upd H t (.tup [V.int lo, V.int hi])) := Kept.same (Same.new (Same.refl H) ht)
      refine ⟨_, rfl, _, rfl, p, t, dx, [], _, (lt : Int), (bg : Int), rfl, hp4, .inl (.inl upd_same), by omega, by omega, (by show 0 < 900; decide), (by show 2 ≤ 1000; decide), fun tm htm => ?_⟩
      obtain ⟨kp5, tm5, kt5⟩ := node_step (K := K) (fs' := nodeF tm (lt : Int) (bg : Int) []) (xs := [V.int lo, V.int hi] ++ [.int (lt : Int), .int (bg : Int)]) hp4 htm
      have hp5 : upd (upd (upd H t (.tup [V.int lo, V.int hi])) tm (.tup ([V.int lo, V.int hi] ++ [.int (lt : Int), .int (bg : Int)]))) p (.ins C dx (nodeF tm (lt : Int) (bg : Int) [])) p = some (.ins C dx (nodeF tm (lt : Int) (bg : Int) [])) := upd_same
      generalize upd (upd (upd H t (.tup [V.int lo, V.int hi])) tm (.tup ([V.int lo, V.int hi] ++ [.int (lt : Int), .int (bg : Int)]))) p (.ins C dx (nodeF tm (lt : Int) (bg : Int) [])) = G5 at kp5 tm5 kt5 hp5
      refine ⟨_, rfl, _, rfl, p, C, dx, _, rfl, hp5, T.cl, nL, ?_, ?_⟩
      · exact Nat.lt_of_le_of_lt (nodeF_le _ _ _ _) (by show 0 + 3 < _; decide)
      refine ⟨_, rfl, _, rfl, p, C, dx, _, rfl, upd_same, T.cl, nH, ?_, ?_⟩
      · exact Nat.lt_of_le_of_lt (Nat.le_trans (putF_le _ _ _) (Nat.succ_le_succ (nodeF_le _ _ _ _))) (by show 0 + 3 + 1 < _; decide)
      exact kk _ tm x _ (Kept.upd (Kept.upd (kp4.trans kp5))) upd_same (NdF.put (NdF.put (ndF_mk (own := []) (fun m => rfl) rfl rfl rfl) "low" _ (by decide +kernel) (by decide +kernel) (by decide +kernel)) "high" _ (by decide +kernel) (by decide +kernel) (by decide +kernel)) trivial
    | _ => cases e
abbrev nCountInit : List Str := ["self", "first", "step", "size", "late", "begin"]
theorem scCountInit : FnScope nCountInit ["self", "first", "step", "size", "late", "begin"] (defScope sCountInit) := ⟨rfl, rfl, rfl, by decide +kernel, rfl, by decide +kernel, by decide +kernel⟩
theorem ok_countInit {dvs : List V} {kws : List (Str × V)} (F : FunD K "__init__" "Count.__init__" (defArgs sCountInit) (defBody sCountInit) (defScope sCountInit) dvs kws f fd)
    (GB : FnOk P w K mg base CX0 3 f3 fd3 ["self", "arguments", "late", "begin"] (spNodeInit K C)) (gB : mg "Node" = some (.ref CN)) (mB : BaseM K CN "__init__" f3) (bB : Binds K fd3 ["self", "arguments", "late", "begin"] []) (T : NodeC K C)
    (GN : FnOk P w K mg base CX0 1 f1 fd1 ["holds", "field"] spNeed) (gN : mg "need" = some (.ref f1)) (kN : PySem.W.keepIn K (.ref f1) = true) (bN : Binds K fd1 ["holds", "field"] [])
    (GI : FnOk P w K mg base CX0 1 f4 fd4 ["thing"] (spWhole K)) (gI : mg "is_whole" = some (.ref f4)) (kI : PySem.W.keepIn K (.ref f4) = true) (bI : Binds K fd4 ["thing"] [])
    (nF : NoAttr K C "first") (nS : NoAttr K C "step") (nZ : NoAttr K C "size") : FnOk P w K mg base CX0 4 f fd ["self", "first", "step", "size", "late", "begin"] (spMk K .count C dd) := by
  refine F.ok scCountInit (fun vs H Q E h => ?_) (fun cdv A ou s H vs Q E hr h => ?_)
  · obtain ⟨p, dx, x, k, lt, bg, rfl, e, _⟩ := h
    cases k with
    | count a st z => rfl
    | _ => cases e
  · obtain ⟨p, dx, x, k, lt, bg, rfl, e, ok, ⟨lt9, bg9, ends⟩, au, hp, kk⟩ := h
    have hr2 : Room 2 _ := hr.mono (by decide)
    have hr1 : Room 1 _ := hr.mono (by decide)
    have nd := scCountInit.nd
    cases k with
    | count a st z =>
      refine ⟨_, PSs.nox (pss_cons (ps_expr (pe_call GN hr1 rfl gN kN bN .nil pass0 (pa_cons (pe_call GI hr1 rfl gI kI bI .nil pass0 (pa_cons (pv 1) pa_nil)) (pa_cons pe_str pa_nil))))
      (pss_cons (ps_expr (pe_call GN hr1 rfl gN kN bN .nil pass0 (pa_cons (pe_call GI hr1 rfl gI kI bI .nil pass0 (pa_cons (pv 2) pa_nil)) (pa_cons pe_str pa_nil))))
      (pss_cons (ps_expr (pe_call GN hr1 rfl gN kN bN .nil pass0 (pa_cons (pe_and (pe_call GI hr1 rfl gI kI bI .nil pass0 (pa_cons (pv 3) pa_nil)) (pe_one (pe_cmpR op_ge (pv 3) pe_int (nomark _)))) (pa_cons pe_str pa_nil))))
      (pss_cons (ps_expr (pe_base (pe_glob (v := .ref CN) rfl gB rfl) mB GB hr bB .nil pass0 (pa_cons (pv 0) (pa_cons (pe_tup (pa_cons (pv 1) (pa_cons (pv 2) (pa_cons (pv 3) pa_nil)))) (pa_cons (pv 4) (pa_cons (pv 5) pa_nil))))))
      (pss_cons (ps_fld (pv 0) (pv 1) rfl)
      (pss_cons (ps_fld (pv 0) (pv 2) rfl)
      (pss_one (ps_fld (pv 0) (pv 3) rfl)))))))), ?_⟩
      have z0 : 0 ≤ z := ok
      refine ⟨_, rfl, _, rfl, .inl ⟨_, rfl, _, rfl, ?_⟩⟩
      refine ⟨_, rfl, _, rfl, .inl ⟨_, rfl, _, rfl, ?_⟩⟩
      refine ⟨_, rfl, _, rfl, .inl ⟨_, rfl, _, rfl, iteT ?_⟩⟩
      refine ⟨_, rfl, _, _, rfl, rfl, .str "size", ?_, ?_⟩
      · show [V.bl (decide (0 ≤ z)), V.str "size"] ++ [] = _
        rw [decide_eq_true (z0)]
        rfl
      refine ⟨rfl, _, rfl, _, rfl, _, rfl, _, rfl, (by show 3 ≤ sizeLine; decide), fun t ht => ?_⟩
      have hp4 := Same.new (o := .tup [V.int a, V.int st, V.int z]) (Same.refl H) ht _ _ hp
      have kt4 : KT K H (upd H t (.tup [V.int a, V.int st, V.int z])) := KT.same (Same.new (Same.refl H) ht)
      have kp4 : Kept p H (upd H t (.tup [V.int a, V.int st, V.int z])) := Kept.same (Same.new (Same.refl H) ht)
      refine ⟨_, rfl, _, rfl, p, t, dx, [], _, (lt : Int), (bg : Int), rfl, hp4, .inl (.inl upd_same), by omega, by omega, (by show 0 < 900; decide), (by show 3 ≤ 1000; decide), fun tm htm => ?_⟩
      obtain ⟨kp5, tm5, kt5⟩ := node_step (K := K) (fs' := nodeF tm (lt : Int) (bg : Int) []) (xs := [V.int a, V.int st, V.int z] ++ [.int (lt : Int), .int (bg : Int)]) hp4 htm
      have hp5 : upd (upd (upd H t (.tup [V.int a, V.int st, V.int z])) tm (.tup ([V.int a, V.int st, V.int z] ++ [.int (lt : Int), .int (bg : Int)]))) p (.ins C dx (nodeF tm (lt : Int) (bg : Int) [])) p = some (.ins C dx (nodeF tm (lt : Int) (bg : Int) [])) := upd_same
      generalize upd (upd (upd H t (.tup [V.int a, V.int st, V.int z])) tm (.tup ([V.int a, V.int st, V.int z] ++ [.int (lt : Int), .int (bg : Int)]))) p (.ins C dx (nodeF tm (lt : Int) (bg : Int) [])) = G5 at kp5 tm5 kt5 hp5
      refine ⟨_, rfl, _, rfl, p, C, dx, _, rfl, hp5, T.cl, nF, ?_, ?_⟩
      · exact Nat.lt_of_le_of_lt (nodeF_le _ _ _ _) (by show 0 + 3 < _; decide)
      refine ⟨_, rfl, _, rfl, p, C, dx, _, rfl, upd_same, T.cl, nS, ?_, ?_⟩
      · exact Nat.lt_of_le_of_lt (Nat.le_trans (putF_le _ _ _) (Nat.succ_le_succ (nodeF_le _ _ _ _))) (by show 0 + 3 + 1 < _; decide)
      refine ⟨_, rfl, _, rfl, p, C, dx, _, rfl, upd_same, T.cl, nZ, ?_, ?_⟩
      · exact Nat.lt_of_le_of_lt (Nat.le_trans (putF_le _ _ _) (Nat.succ_le_succ (Nat.le_trans (putF_le _ _ _) (Nat.succ_le_succ (nodeF_le _ _ _ _))))) (by show 0 + 3 + 1 + 1 < _; decide)
      exact kk _ tm x _ (Kept.upd (Kept.upd (Kept.upd (kp4.trans kp5)))) upd_same (NdF.put (NdF.put (NdF.put (ndF_mk (own := []) (fun m => rfl) rfl rfl rfl) "first" _ (by decide +kernel) (by decide +kernel) (by decide +kernel)) "step" _ (by decide +kernel) (by decide +kernel) (by decide +kernel)) "size" _ (by decide +kernel) (by decide +kernel) (by decide +kernel)) trivial
    | _ => cases e
abbrev nMixInit : List Str := ["self", "many", "late", "begin"]
theorem scMixInit : FnScope nMixInit ["self", "many", "late", "begin"] (defScope sMixInit) := ⟨rfl, rfl, rfl, by decide +kernel, rfl, by decide +kernel, by decide +kernel⟩
theorem ok_mixInit {dvs : List V} {kws : List (Str × V)} (F : FunD K "__init__" "Mix.__init__" (defArgs sMixInit) (defBody sMixInit) (defScope sMixInit) dvs kws f fd)
    (GB : FnOk P w K mg base CX0 3 f3 fd3 ["self", "arguments", "late", "begin"] (spNodeInit K C)) (gB : mg "Node" = some (.ref CN)) (mB : BaseM K CN "__init__" f3) (bB : Binds K fd3 ["self", "arguments", "late", "begin"] []) (T : NodeC K C)
    (GN : FnOk P w K mg base CX0 1 f1 fd1 ["holds", "field"] spNeed) (gN : mg "need" = some (.ref f1)) (kN : PySem.W.keepIn K (.ref f1) = true) (bN : Binds K fd1 ["holds", "field"] [])
    (GW : FnOk P w K mg base CX0 2 f2 fd2 ["thing", "least", "most"] (spWithin K)) (gW : mg "is_whole_within" = some (.ref f2)) (kW : PySem.W.keepIn K (.ref f2) = true) (bW : Binds K fd2 ["thing", "least", "most"] [])
    (nM : NoAttr K C "many") (gM : ∃ t, mg "MOST_MIXED" = some (.int 8 t)) : FnOk P w K mg base CX0 4 f fd ["self", "many", "late", "begin"] (spMk K .mix C dd) := by
  obtain ⟨tM, gM⟩ := gM
  refine F.ok scMixInit (fun vs H Q E h => ?_) (fun cdv A ou s H vs Q E hr h => ?_)
  · obtain ⟨p, dx, x, k, lt, bg, rfl, e, _⟩ := h
    cases k with
    | mix n => rfl
    | _ => cases e
  · obtain ⟨p, dx, x, k, lt, bg, rfl, e, ok, ⟨lt9, bg9, ends⟩, au, hp, kk⟩ := h
    have hr2 : Room 2 _ := hr.mono (by decide)
    have hr1 : Room 1 _ := hr.mono (by decide)
    have nd := scMixInit.nd
    cases k with
    | mix n =>
      refine ⟨_, PSs.nox (pss_cons (ps_expr (pe_call GN hr1 rfl gN kN bN .nil pass0 (pa_cons (pe_call GW hr2 rfl gW kW bW .nil pass0 (pa_cons (pv 1) (pa_cons pe_int (pa_cons (pe_glob (v := .int 8) rfl gM ⟨_, rfl⟩) pa_nil)))) (pa_cons pe_str pa_nil))))
      (pss_cons (ps_expr (pe_base (pe_glob (v := .ref CN) rfl gB rfl) mB GB hr bB .nil pass0 (pa_cons (pv 0) (pa_cons (pe_tup (pa_cons (pv 1) pa_nil)) (pa_cons (pv 2) (pa_cons (pv 3) pa_nil))))))
      (pss_one (ps_fld (pv 0) (pv 1) rfl)))), ?_⟩
      obtain ⟨n1, n8⟩ := ok
      refine ⟨_, rfl, _, 1, 8, rfl, .inl ⟨_, rfl, ?_⟩⟩
      rw [show decide ((1 : Int) ≤ (n : Int) ∧ (n : Int) ≤ 8) = true from decide_eq_true (by omega)]
      refine ⟨_, rfl, ?_⟩
      refine ⟨rfl, _, rfl, _, rfl, (by show 1 ≤ sizeLine; decide), fun t ht => ?_⟩
      have hp4 := Same.new (o := .tup [natV n]) (Same.refl H) ht _ _ hp
      have kt4 : KT K H (upd H t (.tup [natV n])) := KT.same (Same.new (Same.refl H) ht)
      have kp4 : Kept p H (upd H t (.tup [natV n])) := Kept.same (Same.new (Same.refl H) ht)
      refine ⟨_, rfl, _, rfl, p, t, dx, [], _, (lt : Int), (bg : Int), rfl, hp4, .inl (.inl upd_same), by omega, by omega, (by show 0 < 900; decide), (by show 1 ≤ 1000; decide), fun tm htm => ?_⟩
      obtain ⟨kp5, tm5, kt5⟩ := node_step (K := K) (fs' := nodeF tm (lt : Int) (bg : Int) []) (xs := [natV n] ++ [.int (lt : Int), .int (bg : Int)]) hp4 htm
      have hp5 : upd (upd (upd H t (.tup [natV n])) tm (.tup ([natV n] ++ [.int (lt : Int), .int (bg : Int)]))) p (.ins C dx (nodeF tm (lt : Int) (bg : Int) [])) p = some (.ins C dx (nodeF tm (lt : Int) (bg : Int) [])) := upd_same
      generalize upd (upd (upd H t (.tup [natV n])) tm (.tup ([natV n] ++ [.int (lt : Int), .int (bg : Int)]))) p (.ins C dx (nodeF tm (lt : Int) (bg : Int) [])) = G5 at kp5 tm5 kt5 hp5
      refine ⟨_, rfl, _, rfl, p, C, dx, _, rfl, hp5, T.cl, nM, ?_, ?_⟩
      · exact Nat.lt_of_le_of_lt (nodeF_le _ _ _ _) (by show 0 + 3 < _; decide)
      exact kk _ tm x _ (Kept.upd (kp4.trans kp5)) upd_same (NdF.put (ndF_mk (own := []) (fun m => rfl) rfl rfl rfl) "many" _ (by decide +kernel) (by decide +kernel) (by decide +kernel)) trivial
    | _ => cases e
abbrev nUpInit : List Str := ["self", "many", "hold", "late", "begin"]
theorem scUpInit : FnScope nUpInit ["self", "many", "hold", "late", "begin"] (defScope sUpInit) := ⟨rfl, rfl, rfl, by decide +kernel, rfl, by decide +kernel, by decide +kernel⟩
theorem ok_upInit {dvs : List V} {kws : List (Str × V)} (F : FunD K "__init__" "Up.__init__" (defArgs sUpInit) (defBody sUpInit) (defScope sUpInit) dvs kws f fd)
    (GB : FnOk P w K mg base CX0 3 f3 fd3 ["self", "arguments", "late", "begin"] (spNodeInit K C)) (gB : mg "Node" = some (.ref CN)) (mB : BaseM K CN "__init__" f3) (bB : Binds K fd3 ["self", "arguments", "late", "begin"] []) (T : NodeC K C)
    (GN : FnOk P w K mg base CX0 1 f1 fd1 ["holds", "field"] spNeed) (gN : mg "need" = some (.ref f1)) (kN : PySem.W.keepIn K (.ref f1) = true) (bN : Binds K fd1 ["holds", "field"] [])
    (GW : FnOk P w K mg base CX0 2 f2 fd2 ["thing", "least", "most"] (spWithin K)) (gW : mg "is_whole_within" = some (.ref f2)) (kW : PySem.W.keepIn K (.ref f2) = true) (bW : Binds K fd2 ["thing", "least", "most"] [])
    (GT : FnOk P w K mg base CX0 1 f5 fd5 ["thing"] spTruth) (gT : mg "is_truth" = some (.ref f5)) (kT : PySem.W.keepIn K (.ref f5) = true) (bT : Binds K fd5 ["thing"] [])
    (nM : NoAttr K C "many") (nH : NoAttr K C "hold") (gM : ∃ t, mg "MOST_RATE" = some (.int 8 t)) : FnOk P w K mg base CX0 4 f fd ["self", "many", "hold", "late", "begin"] (spMk K .up C dd) := by
  obtain ⟨tM, gM⟩ := gM
  refine F.ok scUpInit (fun vs H Q E h => ?_) (fun cdv A ou s H vs Q E hr h => ?_)
  · obtain ⟨p, dx, x, k, lt, bg, rfl, e, _⟩ := h
    cases k with
    | up n h => rfl
    | _ => cases e
  · obtain ⟨p, dx, x, k, lt, bg, rfl, e, ok, ⟨lt9, bg9, ends⟩, au, hp, kk⟩ := h
    have hr2 : Room 2 _ := hr.mono (by decide)
    have hr1 : Room 1 _ := hr.mono (by decide)
    have nd := scUpInit.nd
    cases k with
    | up n h =>
      refine ⟨_, PSs.nox (pss_cons (ps_expr (pe_call GN hr1 rfl gN kN bN .nil pass0 (pa_cons (pe_call GW hr2 rfl gW kW bW .nil pass0 (pa_cons (pv 1) (pa_cons pe_int (pa_cons (pe_glob (v := .int 8) rfl gM ⟨_, rfl⟩) pa_nil)))) (pa_cons pe_str pa_nil))))
      (pss_cons (ps_expr (pe_call GN hr1 rfl gN kN bN .nil pass0 (pa_cons (pe_call GT hr1 rfl gT kT bT .nil pass0 (pa_cons (pv 2) pa_nil)) (pa_cons pe_str pa_nil))))
      (pss_cons (ps_expr (pe_base (pe_glob (v := .ref CN) rfl gB rfl) mB GB hr bB .nil pass0 (pa_cons (pv 0) (pa_cons (pe_tup (pa_cons (pv 1) (pa_cons (pv 2) pa_nil))) (pa_cons (pv 3) (pa_cons (pv 4) pa_nil))))))
      (pss_cons (ps_fld (pv 0) (pv 1) rfl)
      (pss_one (ps_fld (pv 0) (pv 2) rfl)))))), ?_⟩
      obtain ⟨n1, n8⟩ := ok
      refine ⟨_, rfl, _, 1, 8, rfl, .inl ⟨_, rfl, ?_⟩⟩
      rw [show decide ((1 : Int) ≤ (n : Int) ∧ (n : Int) ≤ 8) = true from decide_eq_true (by omega)]
      refine ⟨_, rfl, ?_⟩
      refine ⟨_, rfl, h, rfl, _, rfl, ?_⟩
      refine ⟨rfl, _, rfl, _, rfl, _, rfl, (by show 2 ≤ sizeLine; decide), fun t ht => ?_⟩
      have hp4 := Same.new (o := .tup [natV n, V.bl h]) (Same.refl H) ht _ _ hp
      have kt4 : KT K H (upd H t (.tup [natV n, V.bl h])) := KT.same (Same.new (Same.refl H) ht)
      have kp4 : Kept p H (upd H t (.tup [natV n, V.bl h])) := Kept.same (Same.new (Same.refl H) ht)
      refine ⟨_, rfl, _, rfl, p, t, dx, [], _, (lt : Int), (bg : Int), rfl, hp4, .inl (.inl upd_same), by omega, by omega, (by show 0 < 900; decide), (by show 2 ≤ 1000; decide), fun tm htm => ?_⟩
      obtain ⟨kp5, tm5, kt5⟩ := node_step (K := K) (fs' := nodeF tm (lt : Int) (bg : Int) []) (xs := [natV n, V.bl h] ++ [.int (lt : Int), .int (bg : Int)]) hp4 htm
      have hp5 : upd (upd (upd H t (.tup [natV n, V.bl h])) tm (.tup ([natV n, V.bl h] ++ [.int (lt : Int), .int (bg : Int)]))) p (.ins C dx (nodeF tm (lt : Int) (bg : Int) [])) p = some (.ins C dx (nodeF tm (lt : Int) (bg : Int) [])) := upd_same
      generalize upd (upd (upd H t (.tup [natV n, V.bl h])) tm (.tup ([natV n, V.bl h] ++ [.int (lt : Int), .int (bg : Int)]))) p (.ins C dx (nodeF tm (lt : Int) (bg : Int) [])) = G5 at kp5 tm5 kt5 hp5
      refine ⟨_, rfl, _, rfl, p, C, dx, _, rfl, hp5, T.cl, nM, ?_, ?_⟩
      · exact Nat.lt_of_le_of_lt (nodeF_le _ _ _ _) (by show 0 + 3 < _; decide)
      refine ⟨_, rfl, _, rfl, p, C, dx, _, rfl, upd_same, T.cl, nH, ?_, ?_⟩
      · exact Nat.lt_of_le_of_lt (Nat.le_trans (putF_le _ _ _) (Nat.succ_le_succ (nodeF_le _ _ _ _))) (by show 0 + 3 + 1 < _; decide)
      exact kk _ tm x _ (Kept.upd (Kept.upd (kp4.trans kp5))) upd_same (NdF.put (NdF.put (ndF_mk (own := []) (fun m => rfl) rfl rfl rfl) "many" _ (by decide +kernel) (by decide +kernel) (by decide +kernel)) "hold" _ (by decide +kernel) (by decide +kernel) (by decide +kernel)) trivial
    | _ => cases e
abbrev nDownInit : List Str := ["self", "many", "late", "begin"]
theorem scDownInit : FnScope nDownInit ["self", "many", "late", "begin"] (defScope sDownInit) := ⟨rfl, rfl, rfl, by decide +kernel, rfl, by decide +kernel, by decide +kernel⟩
theorem ok_downInit {dvs : List V} {kws : List (Str × V)} (F : FunD K "__init__" "Down.__init__" (defArgs sDownInit) (defBody sDownInit) (defScope sDownInit) dvs kws f fd)
    (GB : FnOk P w K mg base CX0 3 f3 fd3 ["self", "arguments", "late", "begin"] (spNodeInit K C)) (gB : mg "Node" = some (.ref CN)) (mB : BaseM K CN "__init__" f3) (bB : Binds K fd3 ["self", "arguments", "late", "begin"] []) (T : NodeC K C)
    (GN : FnOk P w K mg base CX0 1 f1 fd1 ["holds", "field"] spNeed) (gN : mg "need" = some (.ref f1)) (kN : PySem.W.keepIn K (.ref f1) = true) (bN : Binds K fd1 ["holds", "field"] [])
    (GW : FnOk P w K mg base CX0 2 f2 fd2 ["thing", "least", "most"] (spWithin K)) (gW : mg "is_whole_within" = some (.ref f2)) (kW : PySem.W.keepIn K (.ref f2) = true) (bW : Binds K fd2 ["thing", "least", "most"] [])
    (nM : NoAttr K C "many") (gM : ∃ t, mg "MOST_RATE" = some (.int 8 t)) : FnOk P w K mg base CX0 4 f fd ["self", "many", "late", "begin"] (spMk K .down C dd) := by
  obtain ⟨tM, gM⟩ := gM
  refine F.ok scDownInit (fun vs H Q E h => ?_) (fun cdv A ou s H vs Q E hr h => ?_)
  · obtain ⟨p, dx, x, k, lt, bg, rfl, e, _⟩ := h
    cases k with
    | down n => rfl
    | _ => cases e
  · obtain ⟨p, dx, x, k, lt, bg, rfl, e, ok, ⟨lt9, bg9, ends⟩, au, hp, kk⟩ := h
    have hr2 : Room 2 _ := hr.mono (by decide)
    have hr1 : Room 1 _ := hr.mono (by decide)
    have nd := scDownInit.nd
    cases k with
    | down n =>
      refine ⟨_, PSs.nox (pss_cons (ps_expr (pe_call GN hr1 rfl gN kN bN .nil pass0 (pa_cons (pe_call GW hr2 rfl gW kW bW .nil pass0 (pa_cons (pv 1) (pa_cons pe_int (pa_cons (pe_glob (v := .int 8) rfl gM ⟨_, rfl⟩) pa_nil)))) (pa_cons pe_str pa_nil))))
      (pss_cons (ps_expr (pe_base (pe_glob (v := .ref CN) rfl gB rfl) mB GB hr bB .nil pass0 (pa_cons (pv 0) (pa_cons (pe_tup (pa_cons (pv 1) pa_nil)) (pa_cons (pv 2) (pa_cons (pv 3) pa_nil))))))
      (pss_one (ps_fld (pv 0) (pv 1) rfl)))), ?_⟩
      obtain ⟨n1, n8⟩ := ok
      refine ⟨_, rfl, _, 1, 8, rfl, .inl ⟨_, rfl, ?_⟩⟩
      rw [show decide ((1 : Int) ≤ (n : Int) ∧ (n : Int) ≤ 8) = true from decide_eq_true (by omega)]
      refine ⟨_, rfl, ?_⟩
      refine ⟨rfl, _, rfl, _, rfl, (by show 1 ≤ sizeLine; decide), fun t ht => ?_⟩
      have hp4 := Same.new (o := .tup [natV n]) (Same.refl H) ht _ _ hp
      have kt4 : KT K H (upd H t (.tup [natV n])) := KT.same (Same.new (Same.refl H) ht)
      have kp4 : Kept p H (upd H t (.tup [natV n])) := Kept.same (Same.new (Same.refl H) ht)
      refine ⟨_, rfl, _, rfl, p, t, dx, [], _, (lt : Int), (bg : Int), rfl, hp4, .inl (.inl upd_same), by omega, by omega, (by show 0 < 900; decide), (by show 1 ≤ 1000; decide), fun tm htm => ?_⟩
      obtain ⟨kp5, tm5, kt5⟩ := node_step (K := K) (fs' := nodeF tm (lt : Int) (bg : Int) []) (xs := [natV n] ++ [.int (lt : Int), .int (bg : Int)]) hp4 htm
      have hp5 : upd (upd (upd H t (.tup [natV n])) tm (.tup ([natV n] ++ [.int (lt : Int), .int (bg : Int)]))) p (.ins C dx (nodeF tm (lt : Int) (bg : Int) [])) p = some (.ins C dx (nodeF tm (lt : Int) (bg : Int) [])) := upd_same
      generalize upd (upd (upd H t (.tup [natV n])) tm (.tup ([natV n] ++ [.int (lt : Int), .int (bg : Int)]))) p (.ins C dx (nodeF tm (lt : Int) (bg : Int) [])) = G5 at kp5 tm5 kt5 hp5
      refine ⟨_, rfl, _, rfl, p, C, dx, _, rfl, hp5, T.cl, nM, ?_, ?_⟩
      · exact Nat.lt_of_le_of_lt (nodeF_le _ _ _ _) (by show 0 + 3 < _; decide)
      exact kk _ tm x _ (Kept.upd (kp4.trans kp5)) upd_same (NdF.put (ndF_mk (own := []) (fun m => rfl) rfl rfl rfl) "many" _ (by decide +kernel) (by decide +kernel) (by decide +kernel)) trivial
    | _ => cases e
abbrev nTapsInit : List Str := ["self", "numbers", "late", "begin"]
theorem scTapsInit : FnScope nTapsInit ["self", "numbers", "late", "begin"] (defScope sTapsInit) := ⟨rfl, rfl, rfl, by decide +kernel, rfl, by decide +kernel, by decide +kernel⟩
theorem ok_tapsInit {dvs : List V} {kws : List (Str × V)} (F : FunD K "__init__" "Taps.__init__" (defArgs sTapsInit) (defBody sTapsInit) (defScope sTapsInit) dvs kws f fd)
    (GB : FnOk P w K mg base CX0 3 f3 fd3 ["self", "arguments", "late", "begin"] (spNodeInit K C)) (gB : mg "Node" = some (.ref CN)) (mB : BaseM K CN "__init__" f3) (bB : Binds K fd3 ["self", "arguments", "late", "begin"] []) (T : NodeC K C)
    (GN : FnOk P w K mg base CX0 1 f1 fd1 ["holds", "field"] spNeed) (gN : mg "need" = some (.ref f1)) (kN : PySem.W.keepIn K (.ref f1) = true) (bN : Binds K fd1 ["holds", "field"] [])
    (GL : FnOk P w K mg base CX0 3 f6 fd6 ["thing", "least", "most"] (spListOf K)) (gL : mg "is_list_of_wholes" = some (.ref f6)) (kL : PySem.W.keepIn K (.ref f6) = true) (bL : Binds K fd6 ["thing", "least", "most"] [])
    (nN : NoAttr K C "numbers") (gP : ∃ t, mg "MOST_TAPS" = some (.int 12 t)) (gList : mg "list" = none) : FnOk P w K mg base CX0 4 f fd ["self", "numbers", "late", "begin"] (spMk K .taps C dd) := by
  obtain ⟨tP, gP⟩ := gP
  refine F.ok scTapsInit (fun vs H Q E h => ?_) (fun cdv A ou s H vs Q E hr h => ?_)
  · obtain ⟨p, dx, x, k, lt, bg, rfl, e, _⟩ := h
    cases k with
    | taps xs => rfl
    | _ => cases e
  · obtain ⟨p, dx, x, k, lt, bg, rfl, e, ok, ⟨lt9, bg9, ends⟩, au, hp, kk⟩ := h
    have hr2 : Room 2 _ := hr.mono (by decide)
    have hr1 : Room 1 _ := hr.mono (by decide)
    have nd := scTapsInit.nd
    cases k with
    | taps xs =>
      refine ⟨_, PSs.nox (pss_cons (ps_expr (pe_call GN hr1 rfl gN kN bN .nil pass0 (pa_cons (pe_call GL hr rfl gL kL bL .nil pass0 (pa_cons (pv 1) (pa_cons pe_int (pa_cons (pe_glob (v := .int 12) rfl gP ⟨_, rfl⟩) pa_nil)))) (pa_cons pe_str pa_nil))))
      (pss_cons (ps_fld (pv 0) (pe_callTy call_list_of (by rfl) gList PyProof.Rows.boot_list (pa_cons (pv 1) pa_nil)) rfl)
      (pss_one (ps_expr (pe_base (pe_glob (v := .ref CN) rfl gB rfl) mB GB hr bB .nil pass0 (pa_cons (pv 0) (pa_cons (pe_tup (pa_cons (pe_fld (pv 0) rfl) pa_nil)) (pa_cons (pv 2) (pa_cons (pv 3) pa_nil))))))))), ?_⟩
      obtain ⟨x1, x12⟩ := ok
      have au : H x = some (.lst (xs.map V.int)) := au
      refine ⟨_, rfl, x, xs, 1, 12, rfl, au, by omega, by omega, by omega, fun H1 s1 => ⟨_, rfl, ?_⟩⟩
      refine ⟨_, rfl, x, _, rfl, .inl (SqL.of (s1 _ _ au)), fun ln hln => ?_⟩
      have s2 := Same.new (o := .lst (xs.map V.int)) s1 hln
      have hp2 := s2 _ _ hp
      have nln : H ln = none := s1.free hln
      have npl : ln ≠ p := (ne_of_none hp nln).symm
      generalize upd H1 ln (.lst (xs.map V.int)) = H2 at s2 hp2
      refine ⟨_, rfl, p, C, dx, _, rfl, hp2, T.cl, nN, by decide, ?_⟩
      have hp3 : (upd H2 p (.ins C dx (putF "numbers" (.ref ln) []))) p = some (.ins C dx (putF "numbers" (.ref ln) [])) := upd_same
      have k3 : Kept p H (upd H2 p (.ins C dx (putF "numbers" (.ref ln) []))) := Kept.upd (Kept.same s2)
      generalize upd H2 p (.ins C dx (putF "numbers" (.ref ln) [])) = H3 at hp3 k3
      refine ⟨rfl, _, rfl, _, rfl, p, C, dx, _, _, rfl, hp3, T.cl, nN, rfl, (by show 1 ≤ sizeLine; decide), fun t ht => ?_⟩
      have hp4 := Same.new (o := .tup [V.ref ln]) (Same.refl H3) ht _ _ hp3
      have kt4 : KT K H3 (upd H3 t (.tup [V.ref ln])) := KT.same (Same.new (Same.refl H3) ht)
      have kp4 : Kept p H3 (upd H3 t (.tup [V.ref ln])) := Kept.same (Same.new (Same.refl H3) ht)
      refine ⟨_, rfl, _, rfl, p, t, dx, (putF "numbers" (.ref ln) []), _, (lt : Int), (bg : Int), rfl, hp4, .inl (.inl upd_same), by omega, by omega, (by show 1 < 900; decide), (by show 1 ≤ 1000; decide), fun tm htm => ?_⟩
      obtain ⟨kp5, tm5, kt5⟩ := node_step (K := K) (fs' := nodeF tm (lt : Int) (bg : Int) (putF "numbers" (.ref ln) [])) (xs := [V.ref ln] ++ [.int (lt : Int), .int (bg : Int)]) hp4 htm
      have hp5 : upd (upd (upd H3 t (.tup [V.ref ln])) tm (.tup ([V.ref ln] ++ [.int (lt : Int), .int (bg : Int)]))) p (.ins C dx (nodeF tm (lt : Int) (bg : Int) (putF "numbers" (.ref ln) []))) p = some (.ins C dx (nodeF tm (lt : Int) (bg : Int) (putF "numbers" (.ref ln) []))) := upd_same
      generalize upd (upd (upd H3 t (.tup [V.ref ln])) tm (.tup ([V.ref ln] ++ [.int (lt : Int), .int (bg : Int)]))) p (.ins C dx (nodeF tm (lt : Int) (bg : Int) (putF "numbers" (.ref ln) []))) = G5 at kp5 tm5 kt5 hp5
      exact kk _ tm ln _ (k3.trans (kp4.trans kp5)) hp5 (ndF_mk (own := [("numbers", .ref ln)]) (fun m => rfl) rfl rfl rfl) trivial
    | _ => cases e
abbrev nTapeInit : List Str := ["self", "numbers", "again", "late", "begin"]
theorem scTapeInit : FnScope nTapeInit ["self", "numbers", "again", "late", "begin"] (defScope sTapeInit) := ⟨rfl, rfl, rfl, by decide +kernel, rfl, by decide +kernel, by decide +kernel⟩
theorem ok_tapeInit {dvs : List V} {kws : List (Str × V)} (F : FunD K "__init__" "Tape.__init__" (defArgs sTapeInit) (defBody sTapeInit) (defScope sTapeInit) dvs kws f fd)
    (GB : FnOk P w K mg base CX0 3 f3 fd3 ["self", "arguments", "late", "begin"] (spNodeInit K C)) (gB : mg "Node" = some (.ref CN)) (mB : BaseM K CN "__init__" f3) (bB : Binds K fd3 ["self", "arguments", "late", "begin"] []) (T : NodeC K C)
    (GN : FnOk P w K mg base CX0 1 f1 fd1 ["holds", "field"] spNeed) (gN : mg "need" = some (.ref f1)) (kN : PySem.W.keepIn K (.ref f1) = true) (bN : Binds K fd1 ["holds", "field"] [])
    (GL : FnOk P w K mg base CX0 3 f6 fd6 ["thing", "least", "most"] (spListOf K)) (gL : mg "is_list_of_wholes" = some (.ref f6)) (kL : PySem.W.keepIn K (.ref f6) = true) (bL : Binds K fd6 ["thing", "least", "most"] [])
    (GT : FnOk P w K mg base CX0 1 f5 fd5 ["thing"] spTruth) (gT : mg "is_truth" = some (.ref f5)) (kT : PySem.W.keepIn K (.ref f5) = true) (bT : Binds K fd5 ["thing"] [])
    (nN : NoAttr K C "numbers") (nA : NoAttr K C "again") (gQ : ∃ t, mg "MOST_TAPED" = some (.int 60 t)) (gList : mg "list" = none) : FnOk P w K mg base CX0 4 f fd ["self", "numbers", "again", "late", "begin"] (spMk K .tape C dd) := by
  obtain ⟨tQ, gQ⟩ := gQ
  refine F.ok scTapeInit (fun vs H Q E h => ?_) (fun cdv A ou s H vs Q E hr h => ?_)
  · obtain ⟨p, dx, x, k, lt, bg, rfl, e, _⟩ := h
    cases k with
    | tape xs ag => rfl
    | _ => cases e
  · obtain ⟨p, dx, x, k, lt, bg, rfl, e, ok, ⟨lt9, bg9, ends⟩, au, hp, kk⟩ := h
    have hr2 : Room 2 _ := hr.mono (by decide)
    have hr1 : Room 1 _ := hr.mono (by decide)
    have nd := scTapeInit.nd
    cases k with
    | tape xs ag =>
      refine ⟨_, PSs.nox (pss_cons (ps_expr (pe_call GN hr1 rfl gN kN bN .nil pass0 (pa_cons (pe_call GL hr rfl gL kL bL .nil pass0 (pa_cons (pv 1) (pa_cons pe_int (pa_cons (pe_glob (v := .int 60) rfl gQ ⟨_, rfl⟩) pa_nil)))) (pa_cons pe_str pa_nil))))
      (pss_cons (ps_expr (pe_call GN hr1 rfl gN kN bN .nil pass0 (pa_cons (pe_call GT hr1 rfl gT kT bT .nil pass0 (pa_cons (pv 2) pa_nil)) (pa_cons pe_str pa_nil))))
      (pss_cons (ps_fld (pv 0) (pe_callTy call_list_of (by rfl) gList PyProof.Rows.boot_list (pa_cons (pv 1) pa_nil)) rfl)
      (pss_cons (ps_expr (pe_base (pe_glob (v := .ref CN) rfl gB rfl) mB GB hr bB .nil pass0 (pa_cons (pv 0) (pa_cons (pe_tup (pa_cons (pe_fld (pv 0) rfl) (pa_cons (pv 2) pa_nil))) (pa_cons (pv 3) (pa_cons (pv 4) pa_nil))))))
      (pss_one (ps_fld (pv 0) (pv 2) rfl)))))), ?_⟩
      obtain ⟨x1, x60⟩ := ok
      have au : H x = some (.lst (xs.map V.int)) := au
      refine ⟨_, rfl, x, xs, 1, 60, rfl, au, by omega, by omega, by omega, fun H1 s1 => ⟨_, rfl, ?_⟩⟩
      refine ⟨_, rfl, ag, rfl, _, rfl, ?_⟩
      refine ⟨_, rfl, x, _, rfl, .inl (SqL.of (s1 _ _ au)), fun ln hln => ?_⟩
      have s2 := Same.new (o := .lst (xs.map V.int)) s1 hln
      have hp2 := s2 _ _ hp
      have nln : H ln = none := s1.free hln
      have npl : ln ≠ p := (ne_of_none hp nln).symm
      generalize upd H1 ln (.lst (xs.map V.int)) = H2 at s2 hp2
      refine ⟨_, rfl, p, C, dx, _, rfl, hp2, T.cl, nN, by decide, ?_⟩
      have hp3 : (upd H2 p (.ins C dx (putF "numbers" (.ref ln) []))) p = some (.ins C dx (putF "numbers" (.ref ln) [])) := upd_same
      have k3 : Kept p H (upd H2 p (.ins C dx (putF "numbers" (.ref ln) []))) := Kept.upd (Kept.same s2)
      generalize upd H2 p (.ins C dx (putF "numbers" (.ref ln) [])) = H3 at hp3 k3
      refine ⟨rfl, _, rfl, _, rfl, p, C, dx, _, _, rfl, hp3, T.cl, nN, rfl, _, rfl, (by show 2 ≤ sizeLine; decide), fun t ht => ?_⟩
      have hp4 := Same.new (o := .tup [V.ref ln, V.bl ag]) (Same.refl H3) ht _ _ hp3
      have kt4 : KT K H3 (upd H3 t (.tup [V.ref ln, V.bl ag])) := KT.same (Same.new (Same.refl H3) ht)
      have kp4 : Kept p H3 (upd H3 t (.tup [V.ref ln, V.bl ag])) := Kept.same (Same.new (Same.refl H3) ht)
      refine ⟨_, rfl, _, rfl, p, t, dx, (putF "numbers" (.ref ln) []), _, (lt : Int), (bg : Int), rfl, hp4, .inl (.inl upd_same), by omega, by omega, (by show 1 < 900; decide), (by show 2 ≤ 1000; decide), fun tm htm => ?_⟩
      obtain ⟨kp5, tm5, kt5⟩ := node_step (K := K) (fs' := nodeF tm (lt : Int) (bg : Int) (putF "numbers" (.ref ln) [])) (xs := [V.ref ln, V.bl ag] ++ [.int (lt : Int), .int (bg : Int)]) hp4 htm
      have hp5 : upd (upd (upd H3 t (.tup [V.ref ln, V.bl ag])) tm (.tup ([V.ref ln, V.bl ag] ++ [.int (lt : Int), .int (bg : Int)]))) p (.ins C dx (nodeF tm (lt : Int) (bg : Int) (putF "numbers" (.ref ln) []))) p = some (.ins C dx (nodeF tm (lt : Int) (bg : Int) (putF "numbers" (.ref ln) []))) := upd_same
      generalize upd (upd (upd H3 t (.tup [V.ref ln, V.bl ag])) tm (.tup ([V.ref ln, V.bl ag] ++ [.int (lt : Int), .int (bg : Int)]))) p (.ins C dx (nodeF tm (lt : Int) (bg : Int) (putF "numbers" (.ref ln) []))) = G5 at kp5 tm5 kt5 hp5
      refine ⟨_, rfl, _, rfl, p, C, dx, _, rfl, hp5, T.cl, nA, ?_, ?_⟩
      · exact Nat.lt_of_le_of_lt (nodeF_le _ _ _ _) (by show 1 + 3 < _; decide)
      exact kk _ tm ln _ (Kept.upd (k3.trans (kp4.trans kp5))) upd_same (NdF.put (ndF_mk (own := [("numbers", .ref ln)]) (fun m => rfl) rfl rfl rfl) "again" _ (by decide +kernel) (by decide +kernel) (by decide +kernel)) trivial
    | _ => cases e
abbrev nResampleInit : List Str := ["self", "up", "down", "numbers", "late", "begin"]
theorem scResampleInit : FnScope nResampleInit ["self", "up", "down", "numbers", "late", "begin"] (defScope sResampleInit) := ⟨rfl, rfl, rfl, by decide +kernel, rfl, by decide +kernel, by decide +kernel⟩
theorem ok_resampleInit {dvs : List V} {kws : List (Str × V)} (F : FunD K "__init__" "Resample.__init__" (defArgs sResampleInit) (defBody sResampleInit) (defScope sResampleInit) dvs kws f fd)
    (GB : FnOk P w K mg base CX0 3 f3 fd3 ["self", "arguments", "late", "begin"] (spNodeInit K C)) (gB : mg "Node" = some (.ref CN)) (mB : BaseM K CN "__init__" f3) (bB : Binds K fd3 ["self", "arguments", "late", "begin"] []) (T : NodeC K C)
    (GN : FnOk P w K mg base CX0 1 f1 fd1 ["holds", "field"] spNeed) (gN : mg "need" = some (.ref f1)) (kN : PySem.W.keepIn K (.ref f1) = true) (bN : Binds K fd1 ["holds", "field"] [])
    (GW : FnOk P w K mg base CX0 2 f2 fd2 ["thing", "least", "most"] (spWithin K)) (gW : mg "is_whole_within" = some (.ref f2)) (kW : PySem.W.keepIn K (.ref f2) = true) (bW : Binds K fd2 ["thing", "least", "most"] [])
    (GL : FnOk P w K mg base CX0 3 f6 fd6 ["thing", "least", "most"] (spListOf K)) (gL : mg "is_list_of_wholes" = some (.ref f6)) (kL : PySem.W.keepIn K (.ref f6) = true) (bL : Binds K fd6 ["thing", "least", "most"] [])
    (nN : NoAttr K C "numbers") (nU : NoAttr K C "up") (nD : NoAttr K C "down") (gM : ∃ t, mg "MOST_RATE" = some (.int 8 t)) (gP : ∃ t, mg "MOST_TAPS" = some (.int 12 t)) (gList : mg "list" = none) : FnOk P w K mg base CX0 4 f fd ["self", "up", "down", "numbers", "late", "begin"] (spMk K .resample C dd) := by
  obtain ⟨tM, gM⟩ := gM
  obtain ⟨tP, gP⟩ := gP
  refine F.ok scResampleInit (fun vs H Q E h => ?_) (fun cdv A ou s H vs Q E hr h => ?_)
  · obtain ⟨p, dx, x, k, lt, bg, rfl, e, _⟩ := h
    cases k with
    | resample u d => rfl
    | _ => cases e
  · obtain ⟨p, dx, x, k, lt, bg, rfl, e, ok, ⟨lt9, bg9, ends⟩, au, hp, kk⟩ := h
    have hr2 : Room 2 _ := hr.mono (by decide)
    have hr1 : Room 1 _ := hr.mono (by decide)
    have nd := scResampleInit.nd
    cases k with
    | resample u d =>
      refine ⟨_, PSs.nox (pss_cons (ps_expr (pe_call GN hr1 rfl gN kN bN .nil pass0 (pa_cons (pe_call GW hr2 rfl gW kW bW .nil pass0 (pa_cons (pv 1) (pa_cons pe_int (pa_cons (pe_glob (v := .int 8) rfl gM ⟨_, rfl⟩) pa_nil)))) (pa_cons pe_str pa_nil))))
      (pss_cons (ps_expr (pe_call GN hr1 rfl gN kN bN .nil pass0 (pa_cons (pe_call GW hr2 rfl gW kW bW .nil pass0 (pa_cons (pv 2) (pa_cons pe_int (pa_cons (pe_glob (v := .int 8) rfl gM ⟨_, rfl⟩) pa_nil)))) (pa_cons pe_str pa_nil))))
      (pss_cons (ps_expr (pe_call GN hr1 rfl gN kN bN .nil pass0 (pa_cons (pe_call GL hr rfl gL kL bL .nil pass0 (pa_cons (pv 3) (pa_cons pe_int (pa_cons (pe_glob (v := .int 12) rfl gP ⟨_, rfl⟩) pa_nil)))) (pa_cons pe_str pa_nil))))
      (pss_cons (ps_fld (pv 0) (pe_callTy call_list_of (by rfl) gList PyProof.Rows.boot_list (pa_cons (pv 3) pa_nil)) rfl)
      (pss_cons (ps_expr (pe_base (pe_glob (v := .ref CN) rfl gB rfl) mB GB hr bB .nil pass0 (pa_cons (pv 0) (pa_cons (pe_tup (pa_cons (pv 1) (pa_cons (pv 2) (pa_cons (pe_fld (pv 0) rfl) pa_nil)))) (pa_cons (pv 4) (pa_cons (pv 5) pa_nil))))))
      (pss_cons (ps_fld (pv 0) (pv 1) rfl)
      (pss_one (ps_fld (pv 0) (pv 2) rfl)))))))), ?_⟩
      obtain ⟨⟨u1, u8⟩, d1, d8⟩ := ok
      refine ⟨_, rfl, _, 1, 8, rfl, .inl ⟨_, rfl, ?_⟩⟩
      rw [show decide ((1 : Int) ≤ (u : Int) ∧ (u : Int) ≤ 8) = true from decide_eq_true (by omega)]
      refine ⟨_, rfl, ?_⟩
      refine ⟨_, rfl, _, 1, 8, rfl, .inl ⟨_, rfl, ?_⟩⟩
      rw [show decide ((1 : Int) ≤ (d : Int) ∧ (d : Int) ≤ 8) = true from decide_eq_true (by omega)]
      refine ⟨_, rfl, ?_⟩
      have au : H x = some (.lst (([1, 2] : List Int).map V.int)) := au
      refine ⟨_, rfl, x, ([1, 2] : List Int), 1, 12, rfl, au, (by decide), (by decide), (by decide), fun H1 s1 => ⟨_, rfl, ?_⟩⟩
      refine ⟨_, rfl, x, _, rfl, .inl (SqL.of (s1 _ _ au)), fun ln hln => ?_⟩
      have s2 := Same.new (o := .lst (([1, 2] : List Int).map V.int)) s1 hln
      have hp2 := s2 _ _ hp
      have nln : H ln = none := s1.free hln
      have npl : ln ≠ p := (ne_of_none hp nln).symm
      generalize upd H1 ln (.lst (([1, 2] : List Int).map V.int)) = H2 at s2 hp2
      refine ⟨_, rfl, p, C, dx, _, rfl, hp2, T.cl, nN, by decide, ?_⟩
      have hp3 : (upd H2 p (.ins C dx (putF "numbers" (.ref ln) []))) p = some (.ins C dx (putF "numbers" (.ref ln) [])) := upd_same
      have k3 : Kept p H (upd H2 p (.ins C dx (putF "numbers" (.ref ln) []))) := Kept.upd (Kept.same s2)
      generalize upd H2 p (.ins C dx (putF "numbers" (.ref ln) [])) = H3 at hp3 k3
      refine ⟨rfl, _, rfl, _, rfl, _, rfl, _, rfl, p, C, dx, _, _, rfl, hp3, T.cl, nN, rfl, (by show 3 ≤ sizeLine; decide), fun t ht => ?_⟩
      have hp4 := Same.new (o := .tup [natV u, natV d, V.ref ln]) (Same.refl H3) ht _ _ hp3
      have kt4 : KT K H3 (upd H3 t (.tup [natV u, natV d, V.ref ln])) := KT.same (Same.new (Same.refl H3) ht)
      have kp4 : Kept p H3 (upd H3 t (.tup [natV u, natV d, V.ref ln])) := Kept.same (Same.new (Same.refl H3) ht)
      refine ⟨_, rfl, _, rfl, p, t, dx, (putF "numbers" (.ref ln) []), _, (lt : Int), (bg : Int), rfl, hp4, .inl (.inl upd_same), by omega, by omega, (by show 1 < 900; decide), (by show 3 ≤ 1000; decide), fun tm htm => ?_⟩
      obtain ⟨kp5, tm5, kt5⟩ := node_step (K := K) (fs' := nodeF tm (lt : Int) (bg : Int) (putF "numbers" (.ref ln) [])) (xs := [natV u, natV d, V.ref ln] ++ [.int (lt : Int), .int (bg : Int)]) hp4 htm
      have hp5 : upd (upd (upd H3 t (.tup [natV u, natV d, V.ref ln])) tm (.tup ([natV u, natV d, V.ref ln] ++ [.int (lt : Int), .int (bg : Int)]))) p (.ins C dx (nodeF tm (lt : Int) (bg : Int) (putF "numbers" (.ref ln) []))) p = some (.ins C dx (nodeF tm (lt : Int) (bg : Int) (putF "numbers" (.ref ln) []))) := upd_same
      generalize upd (upd (upd H3 t (.tup [natV u, natV d, V.ref ln])) tm (.tup ([natV u, natV d, V.ref ln] ++ [.int (lt : Int), .int (bg : Int)]))) p (.ins C dx (nodeF tm (lt : Int) (bg : Int) (putF "numbers" (.ref ln) []))) = G5 at kp5 tm5 kt5 hp5
      refine ⟨_, rfl, _, rfl, p, C, dx, _, rfl, hp5, T.cl, nU, ?_, ?_⟩
      · exact Nat.lt_of_le_of_lt (nodeF_le _ _ _ _) (by show 1 + 3 < _; decide)
      refine ⟨_, rfl, _, rfl, p, C, dx, _, rfl, upd_same, T.cl, nD, ?_, ?_⟩
      · exact Nat.lt_of_le_of_lt (Nat.le_trans (putF_le _ _ _) (Nat.succ_le_succ (nodeF_le _ _ _ _))) (by show 1 + 3 + 1 < _; decide)
      exact kk _ tm ln _ (Kept.upd (Kept.upd (k3.trans (kp4.trans kp5)))) upd_same (NdF.put (NdF.put (ndF_mk (own := [("numbers", .ref ln)]) (fun m => rfl) rfl rfl rfl) "up" _ (by decide +kernel) (by decide +kernel) (by decide +kernel)) "down" _ (by decide +kernel) (by decide +kernel) (by decide +kernel)) trivial
    | _ => cases e
abbrev nOwnInit : List Str := ["self", "deed", "takes", "gives", "first", "late", "begin"]
theorem scOwnInit : FnScope nOwnInit ["self", "deed", "takes", "gives", "first", "late", "begin"] (defScope sOwnInit) := ⟨rfl, rfl, rfl, by decide +kernel, rfl, by decide +kernel, by decide +kernel⟩
theorem ok_ownInit {dvs : List V} {kws : List (Str × V)} (F : FunD K "__init__" "Own.__init__" (defArgs sOwnInit) (defBody sOwnInit) (defScope sOwnInit) dvs kws f fd)
    (GB : FnOk P w K mg base CX0 3 f3 fd3 ["self", "arguments", "late", "begin"] (spNodeInit K C)) (gB : mg "Node" = some (.ref CN)) (mB : BaseM K CN "__init__" f3) (bB : Binds K fd3 ["self", "arguments", "late", "begin"] []) (T : NodeC K C)
    (GN : FnOk P w K mg base CX0 1 f1 fd1 ["holds", "field"] spNeed) (gN : mg "need" = some (.ref f1)) (kN : PySem.W.keepIn K (.ref f1) = true) (bN : Binds K fd1 ["holds", "field"] [])
    (GI : FnOk P w K mg base CX0 1 f4 fd4 ["thing"] (spWhole K)) (gI : mg "is_whole" = some (.ref f4)) (kI : PySem.W.keepIn K (.ref f4) = true) (bI : Binds K fd4 ["thing"] [])
    (GW : FnOk P w K mg base CX0 2 f2 fd2 ["thing", "least", "most"] (spWithin K)) (gW : mg "is_whole_within" = some (.ref f2)) (kW : PySem.W.keepIn K (.ref f2) = true) (bW : Binds K fd2 ["thing", "least", "most"] [])
    (GA : FnOk P w K mg base CX0 3 f7 fd7 ["things", "least", "most"] (spWholesIn K)) (gA : mg "are_wholes_within" = some (.ref f7)) (kA : PySem.W.keepIn K (.ref f7) = true) (bA : Binds K fd7 ["things", "least", "most"] [])
    (GZ : FnOk P w K mg base CX0 2 f8 fd8 ["things"] (spWholes K)) (gZ : mg "are_wholes" = some (.ref f8)) (kZ : PySem.W.keepIn K (.ref f8) = true) (bZ : Binds K fd8 ["things"] [])
    (nDe : NoAttr K C "deed") (nTa : NoAttr K C "taken") (nGi : NoAttr K C "given") (nFi : NoAttr K C "first") (gM : ∃ t, mg "MOST_OWN_SAMPLES" = some (.int 8 t)) (gP : ∃ t, mg "MOST_OWN_PLACES" = some (.int 4 t)) (gIs : mg "isinstance" = none) (gTuple : mg "tuple" = none) (gLen : mg "len" = none) : FnOk P w K mg base CX0 4 f fd ["self", "deed", "takes", "gives", "first", "late", "begin"] (spMk K .own C dd) := by
  obtain ⟨tM, gM⟩ := gM
  obtain ⟨tP, gP⟩ := gP
  refine F.ok scOwnInit (fun vs H Q E h => ?_) (fun cdv A ou s H vs Q E hr h => ?_)
  · obtain ⟨p, dx, x, k, lt, bg, rfl, e, _⟩ := h
    cases k with
    | own ts g => rfl
    | _ => cases e
  · obtain ⟨p, dx, x, k, lt, bg, rfl, e, ok, ⟨lt9, bg9, ends⟩, au, hp, kk⟩ := h
    have hr2 : Room 2 _ := hr.mono (by decide)
    have hr1 : Room 1 _ := hr.mono (by decide)
    have nd := scOwnInit.nd
    cases k with
    | own ts g =>
      refine ⟨_, PSs.nox (pss_cons (ps_expr (pe_call GN hr1 rfl gN kN bN .nil pass0 (pa_cons (pe_and (pe_callB call_isi (by rfl) gIs boot_isinstance (pa_cons (pv 2) (pa_cons (pe_bltn (v := .ty "tuple") rfl gTuple PyProof.Rows.boot_tuple rfl) pa_nil))) (pe_one (pe_chain op_le op_le pe_int (pe_callB call_len_seq (by rfl) gLen PySem.boot_len (pa_cons (pv 2) pa_nil)) (pe_glob (v := .int 4) rfl gP ⟨_, rfl⟩)))) (pa_cons pe_str pa_nil))))
      (pss_cons (ps_expr (pe_call GN hr1 rfl gN kN bN .nil pass0 (pa_cons (pe_call GA hr rfl gA kA bA .nil pass0 (pa_cons (pv 2) (pa_cons pe_int (pa_cons (pe_glob (v := .int 8) rfl gM ⟨_, rfl⟩) pa_nil)))) (pa_cons pe_str pa_nil))))
      (pss_cons (ps_expr (pe_call GN hr1 rfl gN kN bN .nil pass0 (pa_cons (pe_call GW hr2 rfl gW kW bW .nil pass0 (pa_cons (pv 3) (pa_cons pe_int (pa_cons (pe_glob (v := .int 8) rfl gM ⟨_, rfl⟩) pa_nil)))) (pa_cons pe_str pa_nil))))
      (pss_cons (ps_expr (pe_call GN hr1 rfl gN kN bN .nil pass0 (pa_cons (pe_or (pe_call GI hr1 rfl gI kI bI .nil pass0 (pa_cons (pv 4) pa_nil)) (pe_one (pe_and (pe_callB call_isi (by rfl) gIs boot_isinstance (pa_cons (pv 4) (pa_cons (pe_bltn (v := .ty "tuple") rfl gTuple PyProof.Rows.boot_tuple rfl) pa_nil))) (pe_one (pe_call GZ hr2 rfl gZ kZ bZ .nil pass0 (pa_cons (pv 4) pa_nil)))))) (pa_cons pe_str pa_nil))))
      (pss_cons (ps_expr (pe_base (pe_glob (v := .ref CN) rfl gB rfl) mB GB hr bB .nil pass0 (pa_cons (pv 0) (pa_cons (pe_tup (pa_cons (pv 1) (pa_cons (pv 2) (pa_cons (pv 3) (pa_cons (pv 4) pa_nil))))) (pa_cons (pv 5) (pa_cons (pv 6) pa_nil))))))
      (pss_cons (ps_fld (pv 0) (pv 1) rfl)
      (pss_cons (ps_fld (pv 0) (pv 2) rfl)
      (pss_cons (ps_fld (pv 0) (pv 3) rfl)
      (pss_one (ps_fld (pv 0) (pv 4) rfl)))))))))), ?_⟩
      obtain ⟨t1, t4, dig, g1, g8⟩ := ok
      have au : SqT K H x (ts.map natV) := au
      refine ⟨_, rfl, _, _, _, _, true, rfl, ClsV.ty _, ty_tup au, kit_ty (by decide +kernel), _, rfl, iteT ?_⟩
      refine ⟨_, rfl, x, _, rfl, .inr au, _, _, rfl, rfl, _, rfl, iteT_ ?_ ?_⟩
      · rw [List.length_map]
        exact decide_eq_true (by omega)
      refine ⟨_, _, rfl, rfl, ?_⟩
      refine ⟨_, congrArg (fun b => [V.bl b, V.str "takes"]) (decide_eq_true (by rw [List.length_map]; omega)), ?_⟩
      refine ⟨_, rfl, x, ts, rfl, au, t4, dig, fun H1 s1 => ⟨_, rfl, ?_⟩⟩
      refine ⟨_, rfl, _, 1, 8, rfl, .inl ⟨_, rfl, ?_⟩⟩
      rw [show decide ((1 : Int) ≤ (g : Int) ∧ (g : Int) ≤ 8) = true from decide_eq_true (by omega)]
      refine ⟨_, rfl, ?_⟩
      refine ⟨_, rfl, _, rfl, .inl ⟨_, rfl, _, rfl, iteT ?_⟩⟩
      refine ⟨_, rfl, ?_⟩
      have hp1 := s1 _ _ hp
      have au1 := Same.tup s1 au
      refine ⟨rfl, _, rfl, _, rfl, _, rfl, _, rfl, _, rfl, (by show 4 ≤ sizeLine; decide), fun t ht => ?_⟩
      have hp4 := Same.new (o := .tup [V.ref dd, V.ref x, natV g, V.int 0]) (Same.refl H1) ht _ _ hp1
      have kt4 : KT K H1 (upd H1 t (.tup [V.ref dd, V.ref x, natV g, V.int 0])) := KT.same (Same.new (Same.refl H1) ht)
      have kp4 : Kept p H1 (upd H1 t (.tup [V.ref dd, V.ref x, natV g, V.int 0])) := Kept.same (Same.new (Same.refl H1) ht)
      refine ⟨_, rfl, _, rfl, p, t, dx, [], _, (lt : Int), (bg : Int), rfl, hp4, .inl (.inl upd_same), by omega, by omega, (by show 0 < 900; decide), (by show 4 ≤ 1000; decide), fun tm htm => ?_⟩
      obtain ⟨kp5, tm5, kt5⟩ := node_step (K := K) (fs' := nodeF tm (lt : Int) (bg : Int) []) (xs := [V.ref dd, V.ref x, natV g, V.int 0] ++ [.int (lt : Int), .int (bg : Int)]) hp4 htm
      have hp5 : upd (upd (upd H1 t (.tup [V.ref dd, V.ref x, natV g, V.int 0])) tm (.tup ([V.ref dd, V.ref x, natV g, V.int 0] ++ [.int (lt : Int), .int (bg : Int)]))) p (.ins C dx (nodeF tm (lt : Int) (bg : Int) [])) p = some (.ins C dx (nodeF tm (lt : Int) (bg : Int) [])) := upd_same
      generalize upd (upd (upd H1 t (.tup [V.ref dd, V.ref x, natV g, V.int 0])) tm (.tup ([V.ref dd, V.ref x, natV g, V.int 0] ++ [.int (lt : Int), .int (bg : Int)]))) p (.ins C dx (nodeF tm (lt : Int) (bg : Int) [])) = G5 at kp5 tm5 kt5 hp5
      refine ⟨_, rfl, _, rfl, p, C, dx, _, rfl, hp5, T.cl, nDe, ?_, ?_⟩
      · exact Nat.lt_of_le_of_lt (nodeF_le _ _ _ _) (by show 0 + 3 < _; decide)
      refine ⟨_, rfl, _, rfl, p, C, dx, _, rfl, upd_same, T.cl, nTa, ?_, ?_⟩
      · exact Nat.lt_of_le_of_lt (Nat.le_trans (putF_le _ _ _) (Nat.succ_le_succ (nodeF_le _ _ _ _))) (by show 0 + 3 + 1 < _; decide)
      refine ⟨_, rfl, _, rfl, p, C, dx, _, rfl, upd_same, T.cl, nGi, ?_, ?_⟩
      · exact Nat.lt_of_le_of_lt (Nat.le_trans (putF_le _ _ _) (Nat.succ_le_succ (Nat.le_trans (putF_le _ _ _) (Nat.succ_le_succ (nodeF_le _ _ _ _))))) (by show 0 + 3 + 1 + 1 < _; decide)
      refine ⟨_, rfl, _, rfl, p, C, dx, _, rfl, upd_same, T.cl, nFi, ?_, ?_⟩
      · exact Nat.lt_of_le_of_lt (Nat.le_trans (putF_le _ _ _) (Nat.succ_le_succ (Nat.le_trans (putF_le _ _ _) (Nat.succ_le_succ (Nat.le_trans (putF_le _ _ _) (Nat.succ_le_succ (nodeF_le _ _ _ _))))))) (by show 0 + 3 + 1 + 1 + 1 < _; decide)
      exact kk _ tm x _ (Kept.upd (Kept.upd (Kept.upd (Kept.upd ((Kept.same s1).trans (kp4.trans kp5)))))) upd_same (NdF.put (NdF.put (NdF.put (NdF.put (ndF_mk (own := []) (fun m => rfl) rfl rfl rfl) "deed" _ (by decide +kernel) (by decide +kernel) (by decide +kernel)) "taken" _ (by decide +kernel) (by decide +kernel) (by decide +kernel)) "given" _ (by decide +kernel) (by decide +kernel) (by decide +kernel)) "first" _ (by decide +kernel) (by decide +kernel) (by decide +kernel)) (KT.ins upd_same _ _ (KT.ins upd_same _ _ (KT.ins upd_same _ _ (KT.ins hp5 _ _ (kt5 _ _ (kt4 _ _ au1))))))
    | _ => cases e
end
end Sw
namespace Sw
open PySem PySem.Spec PyProof.Rows L2
/-! ### what nodes take, what they give, how late they are -/
def NodeN (K : PySem.W.Frag) (cl : Srt → Addr) (dd : Addr) (k : Nk) (lt bg : Nat) (a : Addr) (H : Hp) : Prop := ∃ (dx : Addr) (fs : List (Str × V)) (tm x : Addr), H a = some (.ins (cl (srt k)) dx fs) ∧ NdF fs (ownN dd x k) tm (lt : Int) (bg : Int) ∧ auxO K H x k
theorem auxO.kt {K : PySem.W.Frag} {H H1 : Hp} {x : Addr} {k : Nk} (h : auxO K H x k) (s : KT K H H1) : auxO K H1 x k := by
  cases k with
  | own ts g => exact s _ _ h
  | _ => trivial
theorem NodeN.keep {K : PySem.W.Frag} {cl : Srt → Addr} {dd a : Addr} {k : Nk} {lt bg : Nat} {H H1 : Hp} (h : NodeN K cl dd k lt bg a H) (s : Same H H1) : NodeN K cl dd k lt bg a H1 := by
  obtain ⟨dx, fs, tm, x, h1, h2, h3⟩ := h
  exact ⟨dx, fs, tm, x, s _ _ h1, h2, h3.kt (KT.same s)⟩
/-- a node stays where no instance and no tuple is touched -/
theorem NodeN.kt {K : PySem.W.Frag} {cl : Srt → Addr} {dd a : Addr} {k : Nk} {lt bg : Nat} {H H1 : Hp} (h : NodeN K cl dd k lt bg a H) (s : KT K H H1) (i : ∀ C dx fs, H a = some (.ins C dx fs) → H1 a = H a) : NodeN K cl dd k lt bg a H1 := by
  obtain ⟨dx, fs, tm, x, h1, h2, h3⟩ := h
  exact ⟨dx, fs, tm, x, by rw [i _ _ _ h1]; exact h1, h2, h3.kt s⟩
theorem NodeN.lk {K : PySem.W.Frag} {cl : Srt → Addr} {dd a d : Addr} {k : Nk} {lt bg : Nat} {H : Hp} {kvs : List (Key × V)} {o : HO} (h : NodeN K cl dd k lt bg a H) (e : H d = some (.dK kvs)) : NodeN K cl dd k lt bg a (L2.upd H d o) :=
  h.kt (fun _ _ z => lock_tup e z) fun C dx fs h1 => by rw [h1]; exact lock_ne e h1 (fun _ z => by cases z)
theorem NodeN.no {K : PySem.W.Frag} {cl : Srt → Addr} {dd a : Addr} {k : Nk} {lt bg : Nat} {H : Hp} (h : NodeN K cl dd k lt bg a H) : ∃ dx fs, H a = some (.ins (cl (srt k)) dx fs) ∧ fs.lookup ("takes" : Str) = none ∧ fs.lookup ("gives" : Str) = none ∧ fs.lookup ("late" : Str) = none := by
  obtain ⟨dx, fs, tm, x, h1, h2, h3⟩ := h
  refine ⟨dx, fs, h1, ?_, ?_, ?_⟩ <;> refine h2.no _ ?_ (by decide +kernel) (by decide +kernel) (by decide +kernel) <;> cases k <;> rfl
def AtS (K : PySem.W.Frag) (cl : Srt → Addr) (dd : Addr) (A : Srt) (a : Addr) (ts : List Nat) (H : Hp) : Prop := ∃ k lt bg, srt k = A ∧ NkOk k ∧ tksN k = ts ∧ NodeN K cl dd k lt bg a H
def spTkS (K : PySem.W.Frag) (cl : Srt → Addr) (dd : Addr) (A : Srt) : Sp := fun vs H Q _ => ∃ (a : Addr) (ts : List Nat), vs = [.ref a] ∧ AtS K cl dd A a ts H ∧ ∀ t H', Same H H' → SqT K H' t (ts.map fun (n : Nat) => V.int (n : Int)) → Q (.ref t) H'
def spGvS (K : PySem.W.Frag) (cl : Srt → Addr) (dd : Addr) (A : Srt) : Sp := fun vs H Q _ => ∃ (a : Addr) (k : Nk) (lt bg : Nat), vs = [.ref a] ∧ srt k = A ∧ NodeN K cl dd k lt bg a H ∧ Q (.int (gvsN k : Int)) H
def spLtS (K : PySem.W.Frag) (cl : Srt → Addr) (dd : Addr) (A : Srt) : Sp := fun vs H Q _ => ∃ (a : Addr) (k : Nk) (lt bg : Nat), vs = [.ref a] ∧ srt k = A ∧ LbOk k lt bg ∧ NodeN K cl dd k lt bg a H ∧ Q (.int (lt : Int)) H
abbrev allS : List Srt := [.inlet, .outlet, .gain, .mix, .times, .clip, .share, .choose, .own, .taps, .latch, .count, .tape, .up, .down, .resample]
theorem mem_allS (A : Srt) : A ∈ allS := by
  cases A <;> decide
theorem tksN_len {k : Nk} (h : NkOk k) : (tksN k).length ≤ 8 := by
  cases k with
  | mix n =>
    show (List.replicate n 1).length ≤ 8
    rw [List.length_replicate]
    exact h.2
  | own ts g =>
    have := h.2.1
    show ts.length ≤ 8
    omega
  | _ => first | decide | (show 1 ≤ 8; decide) | (show 2 ≤ 8; decide) | (show 3 ≤ 8; decide) | (show 0 ≤ 8; decide)
theorem ones (n : Nat) : (List.replicate n [V.int 1]).flatten = (List.replicate n 1).map natV := by
  rw [List.flatten_replicate_singleton, List.map_replicate]
  rfl
structure ClsS (K : PySem.W.Frag) (cl : Srt → Addr) (CN CO CI : Addr) : Prop where
  nc : ∀ A, NodeC K (cl A)
  isN : ∀ A, InsC K (cl A) CN
  isO : ∀ A, PySem.W.kitOne K (.ref (cl A)) (.ref CO) = some (decide (A = .outlet))
  isI : ∀ A, PySem.W.kitOne K (.ref (cl A)) (.ref CI) = some (decide (A = .inlet))
def sorts {K : PySem.W.Frag} {CN CO CI : Addr} (cl : Srt → Addr) (dd : Addr) (c : ClsS K cl CN CO CI) : Sorts K CN CO CI where
  α := Srt
  As := allS
  cl := cl
  at_ := AtS K cl dd
  out A := decide (A = .outlet)
  inl A := decide (A = .inlet)
  ins A a ts H h := by
    obtain ⟨k, lt, bg, rfl, _, _, h⟩ := h
    obtain ⟨dx, fs, h1, h2, _⟩ := h.no
    exact ⟨dx, fs, h1, h2⟩
  keep A a ts H H1 s h := by
    obtain ⟨k, lt, bg, h1, h2, h3, h⟩ := h
    exact ⟨k, lt, bg, h1, h2, h3, h.keep s⟩
  few A a ts H h := by
    obtain ⟨k, lt, bg, h1, h2, rfl, h⟩ := h
    exact tksN_len h2
  dict A a ts H d kvs o e h := by
    obtain ⟨k, lt, bg, h1, h2, h3, h⟩ := h
    exact ⟨k, lt, bg, h1, h2, h3, h.lk e⟩
  cls A _ := (c.nc A).cl
  isN A _ := c.isN A
  isO A _ := c.isO A
  isI A _ := c.isI A
def isOutN : Nk → Bool
  | .outlet => true
  | _ => false
def isInlN : Nk → Bool
  | .inlet => true
  | _ => false
def infN (k : Nk) : NInf := ⟨tksN k, isOutN k, isInlN k⟩
theorem NodeN.inn {K : PySem.W.Frag} {CN CO CI : Addr} {cl : Srt → Addr} {dd a : Addr} {c : ClsS K cl CN CO CI} {k : Nk} {lt bg : Nat} {H : Hp} (h : NodeN K cl dd k lt bg a H) (ok : NkOk k) : NodeIn (sorts cl dd c) a (infN k) H := by
  refine ⟨srt k, mem_allS _, ⟨k, lt, bg, rfl, ok, rfl, h⟩, ?_, ?_⟩
  · show decide (srt k = .outlet) = isOutN k
    cases k <;> rfl
  · show decide (srt k = .inlet) = isInlN k
    cases k <;> rfl
section
variable {P : Program} {w : World} {K : PySem.W.Frag} {mg : Str → Option Value} {base : Heap} {f f1 f2 f3 f4 f5 f6 f7 f8 f9 C CN CO CI CW dd : Addr} {cl : Srt → Addr} {fd fd1 fd2 fd3 fd4 fd5 fd6 fd7 fd8 fd9 : FuncData}
abbrev nInletTakes : List Str := ["self"]
theorem scInletTakes : FnScope nInletTakes ["self"] (defScope sInletTakes) := ⟨rfl, rfl, rfl, by decide +kernel, rfl, by decide +kernel, by decide +kernel⟩
theorem ok_inletTakes (F : FnM K "takes" "Inlet.takes" sInletTakes f fd) : FnOk P w K mg base CX0 1 f fd ["self"] (spTkS K cl dd .inlet) := by
  refine F.ok scInletTakes (fun vs H Q E h => ?_) (fun cdv A ou s H vs Q E hr h => ?_)
  · obtain ⟨a, ts, rfl, _⟩ := h
    rfl
  · obtain ⟨a, ts0, rfl, ⟨k, lt, bg, e, ok, rfl, dx, fs, tm, x, ha, nf, au⟩, kk⟩ := h
    have nd := scInletTakes.nd
    cases k with
    | inlet =>
      refine ⟨_, PSs.nox (pss_one (ps_ret (pe_tup pa_nil))), ?_⟩
      exact ⟨(by show 0 ≤ sizeLine; decide), fun t ht => kk t _ (Same.new (Same.refl _) ht) (.inl (.inl upd_same))⟩
    | _ => cases e
abbrev nInletGives : List Str := ["self"]
theorem scInletGives : FnScope nInletGives ["self"] (defScope sInletGives) := ⟨rfl, rfl, rfl, by decide +kernel, rfl, by decide +kernel, by decide +kernel⟩
theorem ok_inletGives (F : FnM K "gives" "Inlet.gives" sInletGives f fd) : FnOk P w K mg base CX0 1 f fd ["self"] (spGvS K cl dd .inlet) := by
  refine F.ok scInletGives (fun vs H Q E h => ?_) (fun cdv A ou s H vs Q E hr h => ?_)
  · obtain ⟨a, k, lt, bg, rfl, _⟩ := h
    rfl
  · obtain ⟨a, k, lt, bg, rfl, e, ⟨dx, fs, tm, x, ha, nf, au⟩, kk⟩ := h
    have nd := scInletGives.nd
    cases k with
    | inlet =>
      refine ⟨_, PSs.nox (pss_one (ps_ret pe_int)), ?_⟩
      exact kk
    | _ => cases e
abbrev nInletLate : List Str := ["self"]
theorem scInletLate : FnScope nInletLate ["self"] (defScope sInletLate) := ⟨rfl, rfl, rfl, by decide +kernel, rfl, by decide +kernel, by decide +kernel⟩
theorem ok_inletLate (F : FnM K "late" "Inlet.late" sInletLate f fd) : FnOk P w K mg base CX0 1 f fd ["self"] (spLtS K cl dd .inlet) := by
  refine F.ok scInletLate (fun vs H Q E h => ?_) (fun cdv A ou s H vs Q E hr h => ?_)
  · obtain ⟨a, k, lt, bg, rfl, _⟩ := h
    rfl
  · obtain ⟨a, k, lt, bg, rfl, e, lb, ⟨dx, fs, tm, x, ha, nf, au⟩, kk⟩ := h
    have nd := scInletLate.nd
    cases k with
    | inlet =>
      refine ⟨_, PSs.nox (pss_one (ps_ret pe_int)), ?_⟩
      obtain ⟨rfl, rfl⟩ := lb.2.2 rfl
      exact kk
    | _ => cases e
abbrev nOutletTakes : List Str := ["self"]
theorem scOutletTakes : FnScope nOutletTakes ["self"] (defScope sOutletTakes) := ⟨rfl, rfl, rfl, by decide +kernel, rfl, by decide +kernel, by decide +kernel⟩
theorem ok_outletTakes (F : FnM K "takes" "Outlet.takes" sOutletTakes f fd) : FnOk P w K mg base CX0 1 f fd ["self"] (spTkS K cl dd .outlet) := by
  refine F.ok scOutletTakes (fun vs H Q E h => ?_) (fun cdv A ou s H vs Q E hr h => ?_)
  · obtain ⟨a, ts, rfl, _⟩ := h
    rfl
  · obtain ⟨a, ts0, rfl, ⟨k, lt, bg, e, ok, rfl, dx, fs, tm, x, ha, nf, au⟩, kk⟩ := h
    have nd := scOutletTakes.nd
    cases k with
    | outlet =>
      refine ⟨_, PSs.nox (pss_one (ps_ret (pe_tup (pa_cons pe_int pa_nil)))), ?_⟩
      exact ⟨(by show 1 ≤ sizeLine; decide), fun t ht => kk t _ (Same.new (Same.refl _) ht) (.inl (.inl upd_same))⟩
    | _ => cases e
abbrev nOutletGives : List Str := ["self"]
theorem scOutletGives : FnScope nOutletGives ["self"] (defScope sOutletGives) := ⟨rfl, rfl, rfl, by decide +kernel, rfl, by decide +kernel, by decide +kernel⟩
theorem ok_outletGives (F : FnM K "gives" "Outlet.gives" sOutletGives f fd) : FnOk P w K mg base CX0 1 f fd ["self"] (spGvS K cl dd .outlet) := by
  refine F.ok scOutletGives (fun vs H Q E h => ?_) (fun cdv A ou s H vs Q E hr h => ?_)
  · obtain ⟨a, k, lt, bg, rfl, _⟩ := h
    rfl
  · obtain ⟨a, k, lt, bg, rfl, e, ⟨dx, fs, tm, x, ha, nf, au⟩, kk⟩ := h
    have nd := scOutletGives.nd
    cases k with
    | outlet =>
      refine ⟨_, PSs.nox (pss_one (ps_ret pe_int)), ?_⟩
      exact kk
    | _ => cases e
abbrev nOutletLate : List Str := ["self"]
theorem scOutletLate : FnScope nOutletLate ["self"] (defScope sOutletLate) := ⟨rfl, rfl, rfl, by decide +kernel, rfl, by decide +kernel, by decide +kernel⟩
theorem ok_outletLate (F : FnM K "late" "Outlet.late" sOutletLate f fd) : FnOk P w K mg base CX0 1 f fd ["self"] (spLtS K cl dd .outlet) := by
  refine F.ok scOutletLate (fun vs H Q E h => ?_) (fun cdv A ou s H vs Q E hr h => ?_)
  · obtain ⟨a, k, lt, bg, rfl, _⟩ := h
    rfl
  · obtain ⟨a, k, lt, bg, rfl, e, lb, ⟨dx, fs, tm, x, ha, nf, au⟩, kk⟩ := h
    have nd := scOutletLate.nd
    cases k with
    | outlet =>
      refine ⟨_, PSs.nox (pss_one (ps_ret pe_int)), ?_⟩
      obtain ⟨rfl, rfl⟩ := lb.2.2 rfl
      exact kk
    | _ => cases e
abbrev nGainTakes : List Str := ["self"]
theorem scGainTakes : FnScope nGainTakes ["self"] (defScope sGainTakes) := ⟨rfl, rfl, rfl, by decide +kernel, rfl, by decide +kernel, by decide +kernel⟩
theorem ok_gainTakes (F : FnM K "takes" "Gain.takes" sGainTakes f fd) : FnOk P w K mg base CX0 1 f fd ["self"] (spTkS K cl dd .gain) := by
  refine F.ok scGainTakes (fun vs H Q E h => ?_) (fun cdv A ou s H vs Q E hr h => ?_)
  · obtain ⟨a, ts, rfl, _⟩ := h
    rfl
  · obtain ⟨a, ts0, rfl, ⟨k, lt, bg, e, ok, rfl, dx, fs, tm, x, ha, nf, au⟩, kk⟩ := h
    have nd := scGainTakes.nd
    cases k with
    | gain b =>
      refine ⟨_, PSs.nox (pss_one (ps_ret (pe_tup (pa_cons pe_int pa_nil)))), ?_⟩
      exact ⟨(by show 1 ≤ sizeLine; decide), fun t ht => kk t _ (Same.new (Same.refl _) ht) (.inl (.inl upd_same))⟩
    | _ => cases e
abbrev nGainGives : List Str := ["self"]
theorem scGainGives : FnScope nGainGives ["self"] (defScope sGainGives) := ⟨rfl, rfl, rfl, by decide +kernel, rfl, by decide +kernel, by decide +kernel⟩
theorem ok_gainGives (F : FnM K "gives" "Gain.gives" sGainGives f fd) : FnOk P w K mg base CX0 1 f fd ["self"] (spGvS K cl dd .gain) := by
  refine F.ok scGainGives (fun vs H Q E h => ?_) (fun cdv A ou s H vs Q E hr h => ?_)
  · obtain ⟨a, k, lt, bg, rfl, _⟩ := h
    rfl
  · obtain ⟨a, k, lt, bg, rfl, e, ⟨dx, fs, tm, x, ha, nf, au⟩, kk⟩ := h
    have nd := scGainGives.nd
    cases k with
    | gain b =>
      refine ⟨_, PSs.nox (pss_one (ps_ret pe_int)), ?_⟩
      exact kk
    | _ => cases e
abbrev nGainLate : List Str := ["self"]
theorem scGainLate : FnScope nGainLate ["self"] (defScope sGainLate) := ⟨rfl, rfl, rfl, by decide +kernel, rfl, by decide +kernel, by decide +kernel⟩
theorem ok_gainLate (F : FnM K "late" "Gain.late" sGainLate f fd) (T : NodeC K (cl .gain)) : FnOk P w K mg base CX0 1 f fd ["self"] (spLtS K cl dd .gain) := by
  refine F.ok scGainLate (fun vs H Q E h => ?_) (fun cdv A ou s H vs Q E hr h => ?_)
  · obtain ⟨a, k, lt, bg, rfl, _⟩ := h
    rfl
  · obtain ⟨a, k, lt, bg, rfl, e, lb, ⟨dx, fs, tm, x, ha, nf, au⟩, kk⟩ := h
    have nd := scGainLate.nd
    cases k with
    | gain b =>
      refine ⟨_, PSs.nox (pss_one (ps_ret (pe_fld (pv 0) rfl))), ?_⟩
      exact ⟨_, rfl, a, _, dx, _, _, rfl, ha, T.cl, T.nL, nf.late, kk⟩
    | _ => cases e
abbrev nMixTakes : List Str := ["self"]
theorem scMixTakes : FnScope nMixTakes ["self"] (defScope sMixTakes) := ⟨rfl, rfl, rfl, by decide +kernel, rfl, by decide +kernel, by decide +kernel⟩
theorem ok_mixTakes (F : FnM K "takes" "Mix.takes" sMixTakes f fd) (T : NodeC K (cl .mix)) (nM : NoAttr K (cl .mix) "many") : FnOk P w K mg base CX0 1 f fd ["self"] (spTkS K cl dd .mix) := by
  refine F.ok scMixTakes (fun vs H Q E h => ?_) (fun cdv A ou s H vs Q E hr h => ?_)
  · obtain ⟨a, ts, rfl, _⟩ := h
    rfl
  · obtain ⟨a, ts0, rfl, ⟨k, lt, bg, e, ok, rfl, dx, fs, tm, x, ha, nf, au⟩, kk⟩ := h
    have nd := scMixTakes.nd
    cases k with
    | mix n =>
      refine ⟨_, PSs.nox (pss_one (ps_ret (pe_op op_times (pe_tup (pa_cons pe_int pa_nil)) (pe_fld (pv 0) rfl)))), ?_⟩
      obtain ⟨n1, n8⟩ := ok
      refine ⟨(by show 1 ≤ sizeLine; decide), fun t2 ht2 => ?_⟩
      have s2 := Same.new (o := .tup [V.int 1]) (Same.refl H) ht2
      refine ⟨_, rfl, a, _, dx, _, _, rfl, s2 _ _ ha, T.cl, nM, nf.fld _ _ rfl, t2, n, [V.int 1], rfl, rfl, .inl (.inl upd_same), (by simp), (by omega), (by show 1 ≤ 1000; decide), fun e => ?_, fun ne t5 ht5 => ?_⟩
      · refine kk t2 _ s2 ?_
        rw [e]
        exact .inl (.inl upd_same)
      · refine kk t5 _ (Same.new s2 ht5) ?_
        rw [ones]
        exact .inl (.inl upd_same)
    | _ => cases e
abbrev nMixGives : List Str := ["self"]
theorem scMixGives : FnScope nMixGives ["self"] (defScope sMixGives) := ⟨rfl, rfl, rfl, by decide +kernel, rfl, by decide +kernel, by decide +kernel⟩
theorem ok_mixGives (F : FnM K "gives" "Mix.gives" sMixGives f fd) : FnOk P w K mg base CX0 1 f fd ["self"] (spGvS K cl dd .mix) := by
  refine F.ok scMixGives (fun vs H Q E h => ?_) (fun cdv A ou s H vs Q E hr h => ?_)
  · obtain ⟨a, k, lt, bg, rfl, _⟩ := h
    rfl
  · obtain ⟨a, k, lt, bg, rfl, e, ⟨dx, fs, tm, x, ha, nf, au⟩, kk⟩ := h
    have nd := scMixGives.nd
    cases k with
    | mix n =>
      refine ⟨_, PSs.nox (pss_one (ps_ret pe_int)), ?_⟩
      exact kk
    | _ => cases e
abbrev nMixLate : List Str := ["self"]
theorem scMixLate : FnScope nMixLate ["self"] (defScope sMixLate) := ⟨rfl, rfl, rfl, by decide +kernel, rfl, by decide +kernel, by decide +kernel⟩
theorem ok_mixLate (F : FnM K "late" "Mix.late" sMixLate f fd) (T : NodeC K (cl .mix)) : FnOk P w K mg base CX0 1 f fd ["self"] (spLtS K cl dd .mix) := by
  refine F.ok scMixLate (fun vs H Q E h => ?_) (fun cdv A ou s H vs Q E hr h => ?_)
  · obtain ⟨a, k, lt, bg, rfl, _⟩ := h
    rfl
  · obtain ⟨a, k, lt, bg, rfl, e, lb, ⟨dx, fs, tm, x, ha, nf, au⟩, kk⟩ := h
    have nd := scMixLate.nd
    cases k with
    | mix n =>
      refine ⟨_, PSs.nox (pss_one (ps_ret (pe_fld (pv 0) rfl))), ?_⟩
      exact ⟨_, rfl, a, _, dx, _, _, rfl, ha, T.cl, T.nL, nf.late, kk⟩
    | _ => cases e
abbrev nTimesTakes : List Str := ["self"]
theorem scTimesTakes : FnScope nTimesTakes ["self"] (defScope sTimesTakes) := ⟨rfl, rfl, rfl, by decide +kernel, rfl, by decide +kernel, by decide +kernel⟩
theorem ok_timesTakes (F : FnM K "takes" "Times.takes" sTimesTakes f fd) : FnOk P w K mg base CX0 1 f fd ["self"] (spTkS K cl dd .times) := by
  refine F.ok scTimesTakes (fun vs H Q E h => ?_) (fun cdv A ou s H vs Q E hr h => ?_)
  · obtain ⟨a, ts, rfl, _⟩ := h
    rfl
  · obtain ⟨a, ts0, rfl, ⟨k, lt, bg, e, ok, rfl, dx, fs, tm, x, ha, nf, au⟩, kk⟩ := h
    have nd := scTimesTakes.nd
    cases k with
    | times =>
      refine ⟨_, PSs.nox (pss_one (ps_ret (pe_tup (pa_cons pe_int (pa_cons pe_int pa_nil))))), ?_⟩
      exact ⟨(by show 2 ≤ sizeLine; decide), fun t ht => kk t _ (Same.new (Same.refl _) ht) (.inl (.inl upd_same))⟩
    | _ => cases e
abbrev nTimesGives : List Str := ["self"]
theorem scTimesGives : FnScope nTimesGives ["self"] (defScope sTimesGives) := ⟨rfl, rfl, rfl, by decide +kernel, rfl, by decide +kernel, by decide +kernel⟩
theorem ok_timesGives (F : FnM K "gives" "Times.gives" sTimesGives f fd) : FnOk P w K mg base CX0 1 f fd ["self"] (spGvS K cl dd .times) := by
  refine F.ok scTimesGives (fun vs H Q E h => ?_) (fun cdv A ou s H vs Q E hr h => ?_)
  · obtain ⟨a, k, lt, bg, rfl, _⟩ := h
    rfl
  · obtain ⟨a, k, lt, bg, rfl, e, ⟨dx, fs, tm, x, ha, nf, au⟩, kk⟩ := h
    have nd := scTimesGives.nd
    cases k with
    | times =>
      refine ⟨_, PSs.nox (pss_one (ps_ret pe_int)), ?_⟩
      exact kk
    | _ => cases e
abbrev nTimesLate : List Str := ["self"]
theorem scTimesLate : FnScope nTimesLate ["self"] (defScope sTimesLate) := ⟨rfl, rfl, rfl, by decide +kernel, rfl, by decide +kernel, by decide +kernel⟩
theorem ok_timesLate (F : FnM K "late" "Times.late" sTimesLate f fd) (T : NodeC K (cl .times)) : FnOk P w K mg base CX0 1 f fd ["self"] (spLtS K cl dd .times) := by
  refine F.ok scTimesLate (fun vs H Q E h => ?_) (fun cdv A ou s H vs Q E hr h => ?_)
  · obtain ⟨a, k, lt, bg, rfl, _⟩ := h
    rfl
  · obtain ⟨a, k, lt, bg, rfl, e, lb, ⟨dx, fs, tm, x, ha, nf, au⟩, kk⟩ := h
    have nd := scTimesLate.nd
    cases k with
    | times =>
      refine ⟨_, PSs.nox (pss_one (ps_ret (pe_fld (pv 0) rfl))), ?_⟩
      exact ⟨_, rfl, a, _, dx, _, _, rfl, ha, T.cl, T.nL, nf.late, kk⟩
    | _ => cases e
abbrev nClipTakes : List Str := ["self"]
theorem scClipTakes : FnScope nClipTakes ["self"] (defScope sClipTakes) := ⟨rfl, rfl, rfl, by decide +kernel, rfl, by decide +kernel, by decide +kernel⟩
theorem ok_clipTakes (F : FnM K "takes" "Clip.takes" sClipTakes f fd) : FnOk P w K mg base CX0 1 f fd ["self"] (spTkS K cl dd .clip) := by
  refine F.ok scClipTakes (fun vs H Q E h => ?_) (fun cdv A ou s H vs Q E hr h => ?_)
  · obtain ⟨a, ts, rfl, _⟩ := h
    rfl
  · obtain ⟨a, ts0, rfl, ⟨k, lt, bg, e, ok, rfl, dx, fs, tm, x, ha, nf, au⟩, kk⟩ := h
    have nd := scClipTakes.nd
    cases k with
    | clip lo hi =>
      refine ⟨_, PSs.nox (pss_one (ps_ret (pe_tup (pa_cons pe_int pa_nil)))), ?_⟩
      exact ⟨(by show 1 ≤ sizeLine; decide), fun t ht => kk t _ (Same.new (Same.refl _) ht) (.inl (.inl upd_same))⟩
    | _ => cases e
abbrev nClipGives : List Str := ["self"]
theorem scClipGives : FnScope nClipGives ["self"] (defScope sClipGives) := ⟨rfl, rfl, rfl, by decide +kernel, rfl, by decide +kernel, by decide +kernel⟩
theorem ok_clipGives (F : FnM K "gives" "Clip.gives" sClipGives f fd) : FnOk P w K mg base CX0 1 f fd ["self"] (spGvS K cl dd .clip) := by
  refine F.ok scClipGives (fun vs H Q E h => ?_) (fun cdv A ou s H vs Q E hr h => ?_)
  · obtain ⟨a, k, lt, bg, rfl, _⟩ := h
    rfl
  · obtain ⟨a, k, lt, bg, rfl, e, ⟨dx, fs, tm, x, ha, nf, au⟩, kk⟩ := h
    have nd := scClipGives.nd
    cases k with
    | clip lo hi =>
      refine ⟨_, PSs.nox (pss_one (ps_ret pe_int)), ?_⟩
      exact kk
    | _ => cases e
abbrev nClipLate : List Str := ["self"]
theorem scClipLate : FnScope nClipLate ["self"] (defScope sClipLate) := ⟨rfl, rfl, rfl, by decide +kernel, rfl, by decide +kernel, by decide +kernel⟩
theorem ok_clipLate (F : FnM K "late" "Clip.late" sClipLate f fd) (T : NodeC K (cl .clip)) : FnOk P w K mg base CX0 1 f fd ["self"] (spLtS K cl dd .clip) := by
  refine F.ok scClipLate (fun vs H Q E h => ?_) (fun cdv A ou s H vs Q E hr h => ?_)
  · obtain ⟨a, k, lt, bg, rfl, _⟩ := h
    rfl
  · obtain ⟨a, k, lt, bg, rfl, e, lb, ⟨dx, fs, tm, x, ha, nf, au⟩, kk⟩ := h
    have nd := scClipLate.nd
    cases k with
    | clip lo hi =>
      refine ⟨_, PSs.nox (pss_one (ps_ret (pe_fld (pv 0) rfl))), ?_⟩
      exact ⟨_, rfl, a, _, dx, _, _, rfl, ha, T.cl, T.nL, nf.late, kk⟩
    | _ => cases e
abbrev nShareTakes : List Str := ["self"]
theorem scShareTakes : FnScope nShareTakes ["self"] (defScope sShareTakes) := ⟨rfl, rfl, rfl, by decide +kernel, rfl, by decide +kernel, by decide +kernel⟩
theorem ok_shareTakes (F : FnM K "takes" "Share.takes" sShareTakes f fd) : FnOk P w K mg base CX0 1 f fd ["self"] (spTkS K cl dd .share) := by
  refine F.ok scShareTakes (fun vs H Q E h => ?_) (fun cdv A ou s H vs Q E hr h => ?_)
  · obtain ⟨a, ts, rfl, _⟩ := h
    rfl
  · obtain ⟨a, ts0, rfl, ⟨k, lt, bg, e, ok, rfl, dx, fs, tm, x, ha, nf, au⟩, kk⟩ := h
    have nd := scShareTakes.nd
    cases k with
    | share b =>
      refine ⟨_, PSs.nox (pss_one (ps_ret (pe_tup (pa_cons pe_int pa_nil)))), ?_⟩
      exact ⟨(by show 1 ≤ sizeLine; decide), fun t ht => kk t _ (Same.new (Same.refl _) ht) (.inl (.inl upd_same))⟩
    | _ => cases e
abbrev nShareGives : List Str := ["self"]
theorem scShareGives : FnScope nShareGives ["self"] (defScope sShareGives) := ⟨rfl, rfl, rfl, by decide +kernel, rfl, by decide +kernel, by decide +kernel⟩
theorem ok_shareGives (F : FnM K "gives" "Share.gives" sShareGives f fd) : FnOk P w K mg base CX0 1 f fd ["self"] (spGvS K cl dd .share) := by
  refine F.ok scShareGives (fun vs H Q E h => ?_) (fun cdv A ou s H vs Q E hr h => ?_)
  · obtain ⟨a, k, lt, bg, rfl, _⟩ := h
    rfl
  · obtain ⟨a, k, lt, bg, rfl, e, ⟨dx, fs, tm, x, ha, nf, au⟩, kk⟩ := h
    have nd := scShareGives.nd
    cases k with
    | share b =>
      refine ⟨_, PSs.nox (pss_one (ps_ret pe_int)), ?_⟩
      exact kk
    | _ => cases e
abbrev nShareLate : List Str := ["self"]
theorem scShareLate : FnScope nShareLate ["self"] (defScope sShareLate) := ⟨rfl, rfl, rfl, by decide +kernel, rfl, by decide +kernel, by decide +kernel⟩
theorem ok_shareLate (F : FnM K "late" "Share.late" sShareLate f fd) (T : NodeC K (cl .share)) : FnOk P w K mg base CX0 1 f fd ["self"] (spLtS K cl dd .share) := by
  refine F.ok scShareLate (fun vs H Q E h => ?_) (fun cdv A ou s H vs Q E hr h => ?_)
  · obtain ⟨a, k, lt, bg, rfl, _⟩ := h
    rfl
  · obtain ⟨a, k, lt, bg, rfl, e, lb, ⟨dx, fs, tm, x, ha, nf, au⟩, kk⟩ := h
    have nd := scShareLate.nd
    cases k with
    | share b =>
      refine ⟨_, PSs.nox (pss_one (ps_ret (pe_fld (pv 0) rfl))), ?_⟩
      exact ⟨_, rfl, a, _, dx, _, _, rfl, ha, T.cl, T.nL, nf.late, kk⟩
    | _ => cases e
abbrev nChooseTakes : List Str := ["self"]
theorem scChooseTakes : FnScope nChooseTakes ["self"] (defScope sChooseTakes) := ⟨rfl, rfl, rfl, by decide +kernel, rfl, by decide +kernel, by decide +kernel⟩
theorem ok_chooseTakes (F : FnM K "takes" "Choose.takes" sChooseTakes f fd) : FnOk P w K mg base CX0 1 f fd ["self"] (spTkS K cl dd .choose) := by
  refine F.ok scChooseTakes (fun vs H Q E h => ?_) (fun cdv A ou s H vs Q E hr h => ?_)
  · obtain ⟨a, ts, rfl, _⟩ := h
    rfl
  · obtain ⟨a, ts0, rfl, ⟨k, lt, bg, e, ok, rfl, dx, fs, tm, x, ha, nf, au⟩, kk⟩ := h
    have nd := scChooseTakes.nd
    cases k with
    | choose =>
      refine ⟨_, PSs.nox (pss_one (ps_ret (pe_tup (pa_cons pe_int (pa_cons pe_int (pa_cons pe_int pa_nil)))))), ?_⟩
      exact ⟨(by show 3 ≤ sizeLine; decide), fun t ht => kk t _ (Same.new (Same.refl _) ht) (.inl (.inl upd_same))⟩
    | _ => cases e
abbrev nChooseGives : List Str := ["self"]
theorem scChooseGives : FnScope nChooseGives ["self"] (defScope sChooseGives) := ⟨rfl, rfl, rfl, by decide +kernel, rfl, by decide +kernel, by decide +kernel⟩
theorem ok_chooseGives (F : FnM K "gives" "Choose.gives" sChooseGives f fd) : FnOk P w K mg base CX0 1 f fd ["self"] (spGvS K cl dd .choose) := by
  refine F.ok scChooseGives (fun vs H Q E h => ?_) (fun cdv A ou s H vs Q E hr h => ?_)
  · obtain ⟨a, k, lt, bg, rfl, _⟩ := h
    rfl
  · obtain ⟨a, k, lt, bg, rfl, e, ⟨dx, fs, tm, x, ha, nf, au⟩, kk⟩ := h
    have nd := scChooseGives.nd
    cases k with
    | choose =>
      refine ⟨_, PSs.nox (pss_one (ps_ret pe_int)), ?_⟩
      exact kk
    | _ => cases e
abbrev nChooseLate : List Str := ["self"]
theorem scChooseLate : FnScope nChooseLate ["self"] (defScope sChooseLate) := ⟨rfl, rfl, rfl, by decide +kernel, rfl, by decide +kernel, by decide +kernel⟩
theorem ok_chooseLate (F : FnM K "late" "Choose.late" sChooseLate f fd) (T : NodeC K (cl .choose)) : FnOk P w K mg base CX0 1 f fd ["self"] (spLtS K cl dd .choose) := by
  refine F.ok scChooseLate (fun vs H Q E h => ?_) (fun cdv A ou s H vs Q E hr h => ?_)
  · obtain ⟨a, k, lt, bg, rfl, _⟩ := h
    rfl
  · obtain ⟨a, k, lt, bg, rfl, e, lb, ⟨dx, fs, tm, x, ha, nf, au⟩, kk⟩ := h
    have nd := scChooseLate.nd
    cases k with
    | choose =>
      refine ⟨_, PSs.nox (pss_one (ps_ret (pe_fld (pv 0) rfl))), ?_⟩
      exact ⟨_, rfl, a, _, dx, _, _, rfl, ha, T.cl, T.nL, nf.late, kk⟩
    | _ => cases e
abbrev nOwnTakes : List Str := ["self"]
theorem scOwnTakes : FnScope nOwnTakes ["self"] (defScope sOwnTakes) := ⟨rfl, rfl, rfl, by decide +kernel, rfl, by decide +kernel, by decide +kernel⟩
theorem ok_ownTakes (F : FnM K "takes" "Own.takes" sOwnTakes f fd) (T : NodeC K (cl .own)) (nT : NoAttr K (cl .own) "taken") : FnOk P w K mg base CX0 1 f fd ["self"] (spTkS K cl dd .own) := by
  refine F.ok scOwnTakes (fun vs H Q E h => ?_) (fun cdv A ou s H vs Q E hr h => ?_)
  · obtain ⟨a, ts, rfl, _⟩ := h
    rfl
  · obtain ⟨a, ts0, rfl, ⟨k, lt, bg, e, ok, rfl, dx, fs, tm, x, ha, nf, au⟩, kk⟩ := h
    have nd := scOwnTakes.nd
    cases k with
    | own ts g =>
      refine ⟨_, PSs.nox (pss_one (ps_ret (pe_fld (pv 0) rfl))), ?_⟩
      exact ⟨_, rfl, a, _, dx, _, _, rfl, ha, T.cl, nT, nf.fld _ _ rfl, kk x H (Same.refl H) au⟩
    | _ => cases e
abbrev nOwnGives : List Str := ["self"]
theorem scOwnGives : FnScope nOwnGives ["self"] (defScope sOwnGives) := ⟨rfl, rfl, rfl, by decide +kernel, rfl, by decide +kernel, by decide +kernel⟩
theorem ok_ownGives (F : FnM K "gives" "Own.gives" sOwnGives f fd) (T : NodeC K (cl .own)) (nG : NoAttr K (cl .own) "given") : FnOk P w K mg base CX0 1 f fd ["self"] (spGvS K cl dd .own) := by
  refine F.ok scOwnGives (fun vs H Q E h => ?_) (fun cdv A ou s H vs Q E hr h => ?_)
  · obtain ⟨a, k, lt, bg, rfl, _⟩ := h
    rfl
  · obtain ⟨a, k, lt, bg, rfl, e, ⟨dx, fs, tm, x, ha, nf, au⟩, kk⟩ := h
    have nd := scOwnGives.nd
    cases k with
    | own ts g =>
      refine ⟨_, PSs.nox (pss_one (ps_ret (pe_fld (pv 0) rfl))), ?_⟩
      exact ⟨_, rfl, a, _, dx, _, _, rfl, ha, T.cl, nG, nf.fld _ _ rfl, kk⟩
    | _ => cases e
abbrev nOwnLate : List Str := ["self"]
theorem scOwnLate : FnScope nOwnLate ["self"] (defScope sOwnLate) := ⟨rfl, rfl, rfl, by decide +kernel, rfl, by decide +kernel, by decide +kernel⟩
theorem ok_ownLate (F : FnM K "late" "Own.late" sOwnLate f fd) (T : NodeC K (cl .own)) : FnOk P w K mg base CX0 1 f fd ["self"] (spLtS K cl dd .own) := by
  refine F.ok scOwnLate (fun vs H Q E h => ?_) (fun cdv A ou s H vs Q E hr h => ?_)
  · obtain ⟨a, k, lt, bg, rfl, _⟩ := h
    rfl
  · obtain ⟨a, k, lt, bg, rfl, e, lb, ⟨dx, fs, tm, x, ha, nf, au⟩, kk⟩ := h
    have nd := scOwnLate.nd
    cases k with
    | own ts g =>
      refine ⟨_, PSs.nox (pss_one (ps_ret (pe_fld (pv 0) rfl))), ?_⟩
      exact ⟨_, rfl, a, _, dx, _, _, rfl, ha, T.cl, T.nL, nf.late, kk⟩
    | _ => cases e
abbrev nTapsTakes : List Str := ["self"]
theorem scTapsTakes : FnScope nTapsTakes ["self"] (defScope sTapsTakes) := ⟨rfl, rfl, rfl, by decide +kernel, rfl, by decide +kernel, by decide +kernel⟩
theorem ok_tapsTakes (F : FnM K "takes" "Taps.takes" sTapsTakes f fd) : FnOk P w K mg base CX0 1 f fd ["self"] (spTkS K cl dd .taps) := by
  refine F.ok scTapsTakes (fun vs H Q E h => ?_) (fun cdv A ou s H vs Q E hr h => ?_)
  · obtain ⟨a, ts, rfl, _⟩ := h
    rfl
  · obtain ⟨a, ts0, rfl, ⟨k, lt, bg, e, ok, rfl, dx, fs, tm, x, ha, nf, au⟩, kk⟩ := h
    have nd := scTapsTakes.nd
    cases k with
    | taps xs =>
      refine ⟨_, PSs.nox (pss_one (ps_ret (pe_tup (pa_cons pe_int pa_nil)))), ?_⟩
      exact ⟨(by show 1 ≤ sizeLine; decide), fun t ht => kk t _ (Same.new (Same.refl _) ht) (.inl (.inl upd_same))⟩
    | _ => cases e
abbrev nTapsGives : List Str := ["self"]
theorem scTapsGives : FnScope nTapsGives ["self"] (defScope sTapsGives) := ⟨rfl, rfl, rfl, by decide +kernel, rfl, by decide +kernel, by decide +kernel⟩
theorem ok_tapsGives (F : FnM K "gives" "Taps.gives" sTapsGives f fd) : FnOk P w K mg base CX0 1 f fd ["self"] (spGvS K cl dd .taps) := by
  refine F.ok scTapsGives (fun vs H Q E h => ?_) (fun cdv A ou s H vs Q E hr h => ?_)
  · obtain ⟨a, k, lt, bg, rfl, _⟩ := h
    rfl
  · obtain ⟨a, k, lt, bg, rfl, e, ⟨dx, fs, tm, x, ha, nf, au⟩, kk⟩ := h
    have nd := scTapsGives.nd
    cases k with
    | taps xs =>
      refine ⟨_, PSs.nox (pss_one (ps_ret pe_int)), ?_⟩
      exact kk
    | _ => cases e
abbrev nTapsLate : List Str := ["self"]
theorem scTapsLate : FnScope nTapsLate ["self"] (defScope sTapsLate) := ⟨rfl, rfl, rfl, by decide +kernel, rfl, by decide +kernel, by decide +kernel⟩
theorem ok_tapsLate (F : FnM K "late" "Taps.late" sTapsLate f fd) (T : NodeC K (cl .taps)) : FnOk P w K mg base CX0 1 f fd ["self"] (spLtS K cl dd .taps) := by
  refine F.ok scTapsLate (fun vs H Q E h => ?_) (fun cdv A ou s H vs Q E hr h => ?_)
  · obtain ⟨a, k, lt, bg, rfl, _⟩ := h
    rfl
  · obtain ⟨a, k, lt, bg, rfl, e, lb, ⟨dx, fs, tm, x, ha, nf, au⟩, kk⟩ := h
    have nd := scTapsLate.nd
    cases k with
    | taps xs =>
      refine ⟨_, PSs.nox (pss_one (ps_ret (pe_fld (pv 0) rfl))), ?_⟩
      exact ⟨_, rfl, a, _, dx, _, _, rfl, ha, T.cl, T.nL, nf.late, kk⟩
    | _ => cases e
abbrev nLatchTakes : List Str := ["self"]
theorem scLatchTakes : FnScope nLatchTakes ["self"] (defScope sLatchTakes) := ⟨rfl, rfl, rfl, by decide +kernel, rfl, by decide +kernel, by decide +kernel⟩
theorem ok_latchTakes (F : FnM K "takes" "Latch.takes" sLatchTakes f fd) : FnOk P w K mg base CX0 1 f fd ["self"] (spTkS K cl dd .latch) := by
  refine F.ok scLatchTakes (fun vs H Q E h => ?_) (fun cdv A ou s H vs Q E hr h => ?_)
  · obtain ⟨a, ts, rfl, _⟩ := h
    rfl
  · obtain ⟨a, ts0, rfl, ⟨k, lt, bg, e, ok, rfl, dx, fs, tm, x, ha, nf, au⟩, kk⟩ := h
    have nd := scLatchTakes.nd
    cases k with
    | latch =>
      refine ⟨_, PSs.nox (pss_one (ps_ret (pe_tup (pa_cons pe_int (pa_cons pe_int pa_nil))))), ?_⟩
      exact ⟨(by show 2 ≤ sizeLine; decide), fun t ht => kk t _ (Same.new (Same.refl _) ht) (.inl (.inl upd_same))⟩
    | _ => cases e
abbrev nLatchGives : List Str := ["self"]
theorem scLatchGives : FnScope nLatchGives ["self"] (defScope sLatchGives) := ⟨rfl, rfl, rfl, by decide +kernel, rfl, by decide +kernel, by decide +kernel⟩
theorem ok_latchGives (F : FnM K "gives" "Latch.gives" sLatchGives f fd) : FnOk P w K mg base CX0 1 f fd ["self"] (spGvS K cl dd .latch) := by
  refine F.ok scLatchGives (fun vs H Q E h => ?_) (fun cdv A ou s H vs Q E hr h => ?_)
  · obtain ⟨a, k, lt, bg, rfl, _⟩ := h
    rfl
  · obtain ⟨a, k, lt, bg, rfl, e, ⟨dx, fs, tm, x, ha, nf, au⟩, kk⟩ := h
    have nd := scLatchGives.nd
    cases k with
    | latch =>
      refine ⟨_, PSs.nox (pss_one (ps_ret pe_int)), ?_⟩
      exact kk
    | _ => cases e
abbrev nLatchLate : List Str := ["self"]
theorem scLatchLate : FnScope nLatchLate ["self"] (defScope sLatchLate) := ⟨rfl, rfl, rfl, by decide +kernel, rfl, by decide +kernel, by decide +kernel⟩
theorem ok_latchLate (F : FnM K "late" "Latch.late" sLatchLate f fd) (T : NodeC K (cl .latch)) : FnOk P w K mg base CX0 1 f fd ["self"] (spLtS K cl dd .latch) := by
  refine F.ok scLatchLate (fun vs H Q E h => ?_) (fun cdv A ou s H vs Q E hr h => ?_)
  · obtain ⟨a, k, lt, bg, rfl, _⟩ := h
    rfl
  · obtain ⟨a, k, lt, bg, rfl, e, lb, ⟨dx, fs, tm, x, ha, nf, au⟩, kk⟩ := h
    have nd := scLatchLate.nd
    cases k with
    | latch =>
      refine ⟨_, PSs.nox (pss_one (ps_ret (pe_fld (pv 0) rfl))), ?_⟩
      exact ⟨_, rfl, a, _, dx, _, _, rfl, ha, T.cl, T.nL, nf.late, kk⟩
    | _ => cases e
abbrev nCountTakes : List Str := ["self"]
theorem scCountTakes : FnScope nCountTakes ["self"] (defScope sCountTakes) := ⟨rfl, rfl, rfl, by decide +kernel, rfl, by decide +kernel, by decide +kernel⟩
theorem ok_countTakes (F : FnM K "takes" "Count.takes" sCountTakes f fd) : FnOk P w K mg base CX0 1 f fd ["self"] (spTkS K cl dd .count) := by
  refine F.ok scCountTakes (fun vs H Q E h => ?_) (fun cdv A ou s H vs Q E hr h => ?_)
  · obtain ⟨a, ts, rfl, _⟩ := h
    rfl
  · obtain ⟨a, ts0, rfl, ⟨k, lt, bg, e, ok, rfl, dx, fs, tm, x, ha, nf, au⟩, kk⟩ := h
    have nd := scCountTakes.nd
    cases k with
    | count c1 st z =>
      refine ⟨_, PSs.nox (pss_one (ps_ret (pe_tup (pa_cons pe_int pa_nil)))), ?_⟩
      exact ⟨(by show 1 ≤ sizeLine; decide), fun t ht => kk t _ (Same.new (Same.refl _) ht) (.inl (.inl upd_same))⟩
    | _ => cases e
abbrev nCountGives : List Str := ["self"]
theorem scCountGives : FnScope nCountGives ["self"] (defScope sCountGives) := ⟨rfl, rfl, rfl, by decide +kernel, rfl, by decide +kernel, by decide +kernel⟩
theorem ok_countGives (F : FnM K "gives" "Count.gives" sCountGives f fd) : FnOk P w K mg base CX0 1 f fd ["self"] (spGvS K cl dd .count) := by
  refine F.ok scCountGives (fun vs H Q E h => ?_) (fun cdv A ou s H vs Q E hr h => ?_)
  · obtain ⟨a, k, lt, bg, rfl, _⟩ := h
    rfl
  · obtain ⟨a, k, lt, bg, rfl, e, ⟨dx, fs, tm, x, ha, nf, au⟩, kk⟩ := h
    have nd := scCountGives.nd
    cases k with
    | count c1 st z =>
      refine ⟨_, PSs.nox (pss_one (ps_ret pe_int)), ?_⟩
      exact kk
    | _ => cases e
abbrev nCountLate : List Str := ["self"]
theorem scCountLate : FnScope nCountLate ["self"] (defScope sCountLate) := ⟨rfl, rfl, rfl, by decide +kernel, rfl, by decide +kernel, by decide +kernel⟩
theorem ok_countLate (F : FnM K "late" "Count.late" sCountLate f fd) (T : NodeC K (cl .count)) : FnOk P w K mg base CX0 1 f fd ["self"] (spLtS K cl dd .count) := by
  refine F.ok scCountLate (fun vs H Q E h => ?_) (fun cdv A ou s H vs Q E hr h => ?_)
  · obtain ⟨a, k, lt, bg, rfl, _⟩ := h
    rfl
  · obtain ⟨a, k, lt, bg, rfl, e, lb, ⟨dx, fs, tm, x, ha, nf, au⟩, kk⟩ := h
    have nd := scCountLate.nd
    cases k with
    | count c1 st z =>
      refine ⟨_, PSs.nox (pss_one (ps_ret (pe_fld (pv 0) rfl))), ?_⟩
      exact ⟨_, rfl, a, _, dx, _, _, rfl, ha, T.cl, T.nL, nf.late, kk⟩
    | _ => cases e
abbrev nTapeTakes : List Str := ["self"]
theorem scTapeTakes : FnScope nTapeTakes ["self"] (defScope sTapeTakes) := ⟨rfl, rfl, rfl, by decide +kernel, rfl, by decide +kernel, by decide +kernel⟩
theorem ok_tapeTakes (F : FnM K "takes" "Tape.takes" sTapeTakes f fd) : FnOk P w K mg base CX0 1 f fd ["self"] (spTkS K cl dd .tape) := by
  refine F.ok scTapeTakes (fun vs H Q E h => ?_) (fun cdv A ou s H vs Q E hr h => ?_)
  · obtain ⟨a, ts, rfl, _⟩ := h
    rfl
  · obtain ⟨a, ts0, rfl, ⟨k, lt, bg, e, ok, rfl, dx, fs, tm, x, ha, nf, au⟩, kk⟩ := h
    have nd := scTapeTakes.nd
    cases k with
    | tape xs ag =>
      refine ⟨_, PSs.nox (pss_one (ps_ret (pe_tup (pa_cons pe_int pa_nil)))), ?_⟩
      exact ⟨(by show 1 ≤ sizeLine; decide), fun t ht => kk t _ (Same.new (Same.refl _) ht) (.inl (.inl upd_same))⟩
    | _ => cases e
abbrev nTapeGives : List Str := ["self"]
theorem scTapeGives : FnScope nTapeGives ["self"] (defScope sTapeGives) := ⟨rfl, rfl, rfl, by decide +kernel, rfl, by decide +kernel, by decide +kernel⟩
theorem ok_tapeGives (F : FnM K "gives" "Tape.gives" sTapeGives f fd) : FnOk P w K mg base CX0 1 f fd ["self"] (spGvS K cl dd .tape) := by
  refine F.ok scTapeGives (fun vs H Q E h => ?_) (fun cdv A ou s H vs Q E hr h => ?_)
  · obtain ⟨a, k, lt, bg, rfl, _⟩ := h
    rfl
  · obtain ⟨a, k, lt, bg, rfl, e, ⟨dx, fs, tm, x, ha, nf, au⟩, kk⟩ := h
    have nd := scTapeGives.nd
    cases k with
    | tape xs ag =>
      refine ⟨_, PSs.nox (pss_one (ps_ret pe_int)), ?_⟩
      exact kk
    | _ => cases e
abbrev nTapeLate : List Str := ["self"]
theorem scTapeLate : FnScope nTapeLate ["self"] (defScope sTapeLate) := ⟨rfl, rfl, rfl, by decide +kernel, rfl, by decide +kernel, by decide +kernel⟩
theorem ok_tapeLate (F : FnM K "late" "Tape.late" sTapeLate f fd) (T : NodeC K (cl .tape)) : FnOk P w K mg base CX0 1 f fd ["self"] (spLtS K cl dd .tape) := by
  refine F.ok scTapeLate (fun vs H Q E h => ?_) (fun cdv A ou s H vs Q E hr h => ?_)
  · obtain ⟨a, k, lt, bg, rfl, _⟩ := h
    rfl
  · obtain ⟨a, k, lt, bg, rfl, e, lb, ⟨dx, fs, tm, x, ha, nf, au⟩, kk⟩ := h
    have nd := scTapeLate.nd
    cases k with
    | tape xs ag =>
      refine ⟨_, PSs.nox (pss_one (ps_ret (pe_fld (pv 0) rfl))), ?_⟩
      exact ⟨_, rfl, a, _, dx, _, _, rfl, ha, T.cl, T.nL, nf.late, kk⟩
    | _ => cases e
abbrev nUpTakes : List Str := ["self"]
theorem scUpTakes : FnScope nUpTakes ["self"] (defScope sUpTakes) := ⟨rfl, rfl, rfl, by decide +kernel, rfl, by decide +kernel, by decide +kernel⟩
theorem ok_upTakes (F : FnM K "takes" "Up.takes" sUpTakes f fd) : FnOk P w K mg base CX0 1 f fd ["self"] (spTkS K cl dd .up) := by
  refine F.ok scUpTakes (fun vs H Q E h => ?_) (fun cdv A ou s H vs Q E hr h => ?_)
  · obtain ⟨a, ts, rfl, _⟩ := h
    rfl
  · obtain ⟨a, ts0, rfl, ⟨k, lt, bg, e, ok, rfl, dx, fs, tm, x, ha, nf, au⟩, kk⟩ := h
    have nd := scUpTakes.nd
    cases k with
    | up n h =>
      refine ⟨_, PSs.nox (pss_one (ps_ret (pe_tup (pa_cons pe_int pa_nil)))), ?_⟩
      exact ⟨(by show 1 ≤ sizeLine; decide), fun t ht => kk t _ (Same.new (Same.refl _) ht) (.inl (.inl upd_same))⟩
    | _ => cases e
abbrev nUpGives : List Str := ["self"]
theorem scUpGives : FnScope nUpGives ["self"] (defScope sUpGives) := ⟨rfl, rfl, rfl, by decide +kernel, rfl, by decide +kernel, by decide +kernel⟩
theorem ok_upGives (F : FnM K "gives" "Up.gives" sUpGives f fd) (T : NodeC K (cl .up)) (nG : NoAttr K (cl .up) "many") : FnOk P w K mg base CX0 1 f fd ["self"] (spGvS K cl dd .up) := by
  refine F.ok scUpGives (fun vs H Q E h => ?_) (fun cdv A ou s H vs Q E hr h => ?_)
  · obtain ⟨a, k, lt, bg, rfl, _⟩ := h
    rfl
  · obtain ⟨a, k, lt, bg, rfl, e, ⟨dx, fs, tm, x, ha, nf, au⟩, kk⟩ := h
    have nd := scUpGives.nd
    cases k with
    | up n h =>
      refine ⟨_, PSs.nox (pss_one (ps_ret (pe_fld (pv 0) rfl))), ?_⟩
      exact ⟨_, rfl, a, _, dx, _, _, rfl, ha, T.cl, nG, nf.fld _ _ rfl, kk⟩
    | _ => cases e
abbrev nUpLate : List Str := ["self"]
theorem scUpLate : FnScope nUpLate ["self"] (defScope sUpLate) := ⟨rfl, rfl, rfl, by decide +kernel, rfl, by decide +kernel, by decide +kernel⟩
theorem ok_upLate (F : FnM K "late" "Up.late" sUpLate f fd) (T : NodeC K (cl .up)) : FnOk P w K mg base CX0 1 f fd ["self"] (spLtS K cl dd .up) := by
  refine F.ok scUpLate (fun vs H Q E h => ?_) (fun cdv A ou s H vs Q E hr h => ?_)
  · obtain ⟨a, k, lt, bg, rfl, _⟩ := h
    rfl
  · obtain ⟨a, k, lt, bg, rfl, e, lb, ⟨dx, fs, tm, x, ha, nf, au⟩, kk⟩ := h
    have nd := scUpLate.nd
    cases k with
    | up n h =>
      refine ⟨_, PSs.nox (pss_one (ps_ret (pe_fld (pv 0) rfl))), ?_⟩
      exact ⟨_, rfl, a, _, dx, _, _, rfl, ha, T.cl, T.nL, nf.late, kk⟩
    | _ => cases e
abbrev nDownTakes : List Str := ["self"]
theorem scDownTakes : FnScope nDownTakes ["self"] (defScope sDownTakes) := ⟨rfl, rfl, rfl, by decide +kernel, rfl, by decide +kernel, by decide +kernel⟩
theorem ok_downTakes (F : FnM K "takes" "Down.takes" sDownTakes f fd) (T : NodeC K (cl .down)) (nM : NoAttr K (cl .down) "many") : FnOk P w K mg base CX0 1 f fd ["self"] (spTkS K cl dd .down) := by
  refine F.ok scDownTakes (fun vs H Q E h => ?_) (fun cdv A ou s H vs Q E hr h => ?_)
  · obtain ⟨a, ts, rfl, _⟩ := h
    rfl
  · obtain ⟨a, ts0, rfl, ⟨k, lt, bg, e, ok, rfl, dx, fs, tm, x, ha, nf, au⟩, kk⟩ := h
    have nd := scDownTakes.nd
    cases k with
    | down n =>
      refine ⟨_, PSs.nox (pss_one (ps_ret (pe_tup (pa_cons (pe_fld (pv 0) rfl) pa_nil)))), ?_⟩
      exact ⟨_, rfl, a, _, dx, _, _, rfl, ha, T.cl, nM, nf.fld _ _ rfl, (by show 1 ≤ sizeLine; decide), fun t ht => kk t _ (Same.new (Same.refl _) ht) (.inl (.inl upd_same))⟩
    | _ => cases e
abbrev nDownGives : List Str := ["self"]
theorem scDownGives : FnScope nDownGives ["self"] (defScope sDownGives) := ⟨rfl, rfl, rfl, by decide +kernel, rfl, by decide +kernel, by decide +kernel⟩
theorem ok_downGives (F : FnM K "gives" "Down.gives" sDownGives f fd) : FnOk P w K mg base CX0 1 f fd ["self"] (spGvS K cl dd .down) := by
  refine F.ok scDownGives (fun vs H Q E h => ?_) (fun cdv A ou s H vs Q E hr h => ?_)
  · obtain ⟨a, k, lt, bg, rfl, _⟩ := h
    rfl
  · obtain ⟨a, k, lt, bg, rfl, e, ⟨dx, fs, tm, x, ha, nf, au⟩, kk⟩ := h
    have nd := scDownGives.nd
    cases k with
    | down n =>
      refine ⟨_, PSs.nox (pss_one (ps_ret pe_int)), ?_⟩
      exact kk
    | _ => cases e
abbrev nDownLate : List Str := ["self"]
theorem scDownLate : FnScope nDownLate ["self"] (defScope sDownLate) := ⟨rfl, rfl, rfl, by decide +kernel, rfl, by decide +kernel, by decide +kernel⟩
theorem ok_downLate (F : FnM K "late" "Down.late" sDownLate f fd) (T : NodeC K (cl .down)) : FnOk P w K mg base CX0 1 f fd ["self"] (spLtS K cl dd .down) := by
  refine F.ok scDownLate (fun vs H Q E h => ?_) (fun cdv A ou s H vs Q E hr h => ?_)
  · obtain ⟨a, k, lt, bg, rfl, _⟩ := h
    rfl
  · obtain ⟨a, k, lt, bg, rfl, e, lb, ⟨dx, fs, tm, x, ha, nf, au⟩, kk⟩ := h
    have nd := scDownLate.nd
    cases k with
    | down n =>
      refine ⟨_, PSs.nox (pss_one (ps_ret (pe_fld (pv 0) rfl))), ?_⟩
      exact ⟨_, rfl, a, _, dx, _, _, rfl, ha, T.cl, T.nL, nf.late, kk⟩
    | _ => cases e
abbrev nResampleTakes : List Str := ["self"]
theorem scResampleTakes : FnScope nResampleTakes ["self"] (defScope sResampleTakes) := ⟨rfl, rfl, rfl, by decide +kernel, rfl, by decide +kernel, by decide +kernel⟩
theorem ok_resampleTakes (F : FnM K "takes" "Resample.takes" sResampleTakes f fd) (T : NodeC K (cl .resample)) (nD : NoAttr K (cl .resample) "down") : FnOk P w K mg base CX0 1 f fd ["self"] (spTkS K cl dd .resample) := by
  refine F.ok scResampleTakes (fun vs H Q E h => ?_) (fun cdv A ou s H vs Q E hr h => ?_)
  · obtain ⟨a, ts, rfl, _⟩ := h
    rfl
  · obtain ⟨a, ts0, rfl, ⟨k, lt, bg, e, ok, rfl, dx, fs, tm, x, ha, nf, au⟩, kk⟩ := h
    have nd := scResampleTakes.nd
    cases k with
    | resample u d =>
      refine ⟨_, PSs.nox (pss_one (ps_ret (pe_tup (pa_cons (pe_fld (pv 0) rfl) pa_nil)))), ?_⟩
      exact ⟨_, rfl, a, _, dx, _, _, rfl, ha, T.cl, nD, nf.fld _ _ rfl, (by show 1 ≤ sizeLine; decide), fun t ht => kk t _ (Same.new (Same.refl _) ht) (.inl (.inl upd_same))⟩
    | _ => cases e
abbrev nResampleGives : List Str := ["self"]
theorem scResampleGives : FnScope nResampleGives ["self"] (defScope sResampleGives) := ⟨rfl, rfl, rfl, by decide +kernel, rfl, by decide +kernel, by decide +kernel⟩
theorem ok_resampleGives (F : FnM K "gives" "Resample.gives" sResampleGives f fd) (T : NodeC K (cl .resample)) (nG : NoAttr K (cl .resample) "up") : FnOk P w K mg base CX0 1 f fd ["self"] (spGvS K cl dd .resample) := by
  refine F.ok scResampleGives (fun vs H Q E h => ?_) (fun cdv A ou s H vs Q E hr h => ?_)
  · obtain ⟨a, k, lt, bg, rfl, _⟩ := h
    rfl
  · obtain ⟨a, k, lt, bg, rfl, e, ⟨dx, fs, tm, x, ha, nf, au⟩, kk⟩ := h
    have nd := scResampleGives.nd
    cases k with
    | resample u d =>
      refine ⟨_, PSs.nox (pss_one (ps_ret (pe_fld (pv 0) rfl))), ?_⟩
      exact ⟨_, rfl, a, _, dx, _, _, rfl, ha, T.cl, nG, nf.fld _ _ rfl, kk⟩
    | _ => cases e
abbrev nResampleLate : List Str := ["self"]
theorem scResampleLate : FnScope nResampleLate ["self"] (defScope sResampleLate) := ⟨rfl, rfl, rfl, by decide +kernel, rfl, by decide +kernel, by decide +kernel⟩
theorem ok_resampleLate (F : FnM K "late" "Resample.late" sResampleLate f fd) (T : NodeC K (cl .resample)) : FnOk P w K mg base CX0 1 f fd ["self"] (spLtS K cl dd .resample) := by
  refine F.ok scResampleLate (fun vs H Q E h => ?_) (fun cdv A ou s H vs Q E hr h => ?_)
  · obtain ⟨a, k, lt, bg, rfl, _⟩ := h
    rfl
  · obtain ⟨a, k, lt, bg, rfl, e, lb, ⟨dx, fs, tm, x, ha, nf, au⟩, kk⟩ := h
    have nd := scResampleLate.nd
    cases k with
    | resample u d =>
      refine ⟨_, PSs.nox (pss_one (ps_ret (pe_fld (pv 0) rfl))), ?_⟩
      exact ⟨_, rfl, a, _, dx, _, _, rfl, ha, T.cl, T.nL, nf.late, kk⟩
    | _ => cases e
end
end Sw
namespace Sw
open PySem PySem.Spec PyProof.Rows L2
/-! ### a node is put in the place of another one -/
theorem WvOk.congr {nm nm' : List Nm} {ws : List Wr} (ok : WvOk nm ws) (e : nm'.map (fun x => (x.name, x.inf)) = nm.map (fun x => (x.name, x.inf))) : WvOk nm' ws := by
  have en : nm'.map Nm.name = nm.map Nm.name := by
    have := congrArg (List.map Prod.fst) e
    rw [List.map_map, List.map_map] at this
    exact this
  have ln : nm'.length = nm.length := by
    have := congrArg List.length e
    rw [List.length_map, List.length_map] at this
    exact this
  have to : ∀ x ∈ nm, ∃ y ∈ nm', y.name = x.name ∧ y.inf = x.inf := fun x hx => by
    have : (x.name, x.inf) ∈ nm'.map (fun x => (x.name, x.inf)) := by
      rw [e]
      exact List.mem_map.mpr ⟨x, hx, rfl⟩
    obtain ⟨y, hy, z⟩ := List.mem_map.mp this
    exact ⟨y, hy, congrArg Prod.fst z, congrArg Prod.snd z⟩
  have fro : ∀ y ∈ nm', ∃ x ∈ nm, x.name = y.name ∧ x.inf = y.inf := fun y hy => by
    have : (y.name, y.inf) ∈ nm.map (fun x => (x.name, x.inf)) := by
      rw [← e]
      exact List.mem_map.mpr ⟨y, hy, rfl⟩
    obtain ⟨x, hx, z⟩ := List.mem_map.mp this
    exact ⟨x, hx, congrArg Prod.fst z, congrArg Prod.snd z⟩
  refine ⟨⟨by rw [ln]; exact ok.nms.few, fun y hy => ?_, by rw [en]; exact ok.nms.nd⟩, ok.few, fun c hc => ?_, fun c hc => ?_, ok.del, ok.one, fun y hy p hp => ?_, fun y hy => ?_⟩
  · obtain ⟨x, hx, e1, _⟩ := fro y hy
    rw [← e1]
    exact ok.nms.ok x hx
  · obtain ⟨x, hx, e1, o⟩ := ok.src c hc
    obtain ⟨y, hy, e2, e3⟩ := to x hx
    exact ⟨y, hy, e2.trans e1, by rw [e3]; exact o⟩
  · obtain ⟨x, hx, e1, o⟩ := ok.goal c hc
    obtain ⟨y, hy, e2, e3⟩ := to x hx
    exact ⟨y, hy, e2.trans e1, by rw [e3]; exact o⟩
  · obtain ⟨x, hx, e1, e2⟩ := fro y hy
    rw [← e1]
    exact ok.all x hx p (by rw [e2]; exact hp)
  · obtain ⟨x, hx, e1, _⟩ := fro y hy
    rw [← e1]
    have all : ∀ {s : Str}, Reach nm ws s → Reach nm' ws s := fun {s} r => by
      induction r with
      | inl h i =>
        obtain ⟨y, hy, e2, e3⟩ := to _ h
        rw [← e2]
        exact .inl hy (by rw [e3]; exact i)
      | step h _ ih => exact .step h ih
    exact all (ok.reach x hx)
theorem gv_out {s : Nk} (ok : NkOk s) : gvsN s = 0 ↔ isOutN s = true := by
  cases s with
  | up n h =>
    have this : Dig n := ok
    exact ⟨fun z => absurd (show n = 0 from z) (by have := this.1; omega), fun z => by cases z⟩
  | resample u d =>
    have : Dig u ∧ Dig d := ok
    exact ⟨fun z => absurd (show u = 0 from z) (by have := this.1.1; omega), fun z => by cases z⟩
  | own ts g =>
    obtain ⟨_, _, _, h⟩ := ok
    exact ⟨fun z => absurd (show g = 0 from z) (by have := h.1; omega), fun z => by cases z⟩
  | outlet => exact ⟨fun _ => rfl, fun _ => rfl⟩
  | _ => exact ⟨fun z => absurd (show (1 : Nat) = 0 from z) (by decide), fun z => by cases z⟩
theorem tk_inl {s : Nk} (ok : NkOk s) : tksN s = [] ↔ isInlN s = true := by
  cases s with
  | mix n =>
    have : Dig n := ok
    refine ⟨fun z => ?_, fun z => by cases z⟩
    have z' : List.replicate n 1 = [] := z
    have := congrArg List.length z'
    rw [List.length_replicate] at this
    have h : n = 0 := this
    have := (show Dig n from ok).1
    omega
  | own ts g =>
    obtain ⟨h, _⟩ := ok
    refine ⟨fun z => ?_, fun z => by cases z⟩
    have z' : ts = [] := z
    rw [z'] at h
    exact absurd h (by decide)
  | inlet => exact ⟨fun _ => rfl, fun _ => rfl⟩
  | _ => exact ⟨fun z => absurd (show _ = [] from z) (by simp [tksN]), fun z => by cases z⟩
theorem inf_like {s t : Nk} (ok : NkOk s) (ok' : NkOk t) (e1 : tksN s = tksN t) (e2 : gvsN s = gvsN t) : infN s = infN t := by
  have a : isOutN s = isOutN t := by
    cases h : isOutN s with
    | true =>
      have := (gv_out ok).mpr h
      rw [e2] at this
      exact ((gv_out ok').mp this).symm
    | false =>
      cases h' : isOutN t with
      | true =>
        have := (gv_out ok').mpr h'
        rw [← e2] at this
        rw [(gv_out ok).mp this] at h
        cases h
      | false => rfl
  have b : isInlN s = isInlN t := by
    cases h : isInlN s with
    | true =>
      have := (tk_inl ok).mpr h
      rw [e1] at this
      exact ((tk_inl ok').mp this).symm
    | false =>
      cases h' : isInlN t with
      | true =>
        have := (tk_inl ok').mpr h'
        rw [← e1] at this
        rw [(tk_inl ok).mp this] at h
        cases h
      | false => rfl
  unfold infN
  rw [e1, a, b]
/-- another node by that name -/
def putN (nm : List Nm) (x : Str) (n : Addr) : List Nm := nm.map fun y => if y.name = x then ⟨y.name, n, y.inf⟩ else y
theorem putN_map (nm : List Nm) (x : Str) (n : Addr) : (putN nm x n).map (fun y => (y.name, y.inf)) = nm.map (fun y => (y.name, y.inf)) := by
  unfold putN
  rw [List.map_map]
  refine List.map_congr_left fun y _ => ?_
  show ((if y.name = x then (⟨y.name, n, y.inf⟩ : Nm) else y).name, (if y.name = x then (⟨y.name, n, y.inf⟩ : Nm) else y).inf) = _
  split <;> rfl
def natD (n : Nat) : PyData := .int (n : Int)
def tkD (ts : List Nat) : PyData := .tuple (ts.map natD)
theorem tk_lay : ∀ ts : List Nat, PyData.canLayAll0 (ts.map natD) = true ∧ PyData.depthAll (ts.map natD) = 0
  | [] => ⟨rfl, by rw [List.map_nil, PyData.depthAll]⟩
  | c :: r => by
    obtain ⟨i1, i2⟩ := tk_lay r
    rw [List.map_cons, PyData.canLayAll0, PyData.depthAll, i1, i2]
    unfold natD
    rw [PyData.canLay0, PyData.depth]
    exact ⟨rfl, rfl⟩
theorem tk_shaped (ts : List Nat) : SeqAt.shaped (tkD ts) = true := by
  obtain ⟨a1, a2⟩ := tk_lay ts
  unfold SeqAt.shaped tkD
  rw [PyData.canLay0, a1, PyData.depth, a2]
  rfl
theorem tk_dp {K : PySem.W.Frag} {H : Hp} : ∀ ts : List Nat, DpAll K H (ts.map fun (n : Nat) => V.int (n : Int)) (ts.map natD)
  | [] => .nil
  | t :: r => .cons (.int _) (tk_dp r)
theorem tk_eqvA : ∀ a b : List Nat, PyData.eqvAll (a.map natD) (b.map natD) = decide (a = b)
  | [], [] => by rw [List.map_nil, PyData.eqvAll]; rfl
  | [], y :: b => by rw [List.map_nil, List.map_cons, PyData.eqvAll]; rfl
  | x :: a, [] => by rw [List.map_nil, List.map_cons, PyData.eqvAll]; rfl
  | x :: a, y :: b => by
    rw [List.map_cons, List.map_cons, PyData.eqvAll, tk_eqvA a b]
    unfold natD
    have e : PyData.eqv (.int (x : Int)) (.int (y : Int)) = decide (x = y) := by
      rw [PyData.eqv]
      by_cases z : x = y
      · rw [z, decide_eq_true rfl]
        exact beq_self_eq_true _
      · rw [decide_eq_false z]
        exact beq_eq_false_iff_ne.mpr (by omega)
    rw [e]
    by_cases z : x = y
    · by_cases q : a = b
      · rw [z, q]
        simp
      · rw [decide_eq_false q, Bool.and_false, decide_eq_false fun h => q (List.cons.inj h).2]
    · rw [decide_eq_false z, Bool.false_and, decide_eq_false fun h => z (List.cons.inj h).1]
theorem tk_eqv (a b : List Nat) : PyData.eqv (tkD a) (tkD b) = decide (a = b) := by
  unfold tkD
  rw [PyData.eqv]
  exact tk_eqvA a b
def spPut (K : PySem.W.Frag) {CN CO CI : Addr} (cl : Srt → Addr) (dd : Addr) (c : ClsS K cl CN CO CI) (CW : Addr) : Sp := fun vs H Q _ => ∃ (p n : Addr) (nm : List Nm) (ws : List Wr) (x : Nm) (s t : Nk) (l1 b1 l2 b2 : Nat), vs = [.ref p, .str x.name, .ref n] ∧ WvAt K (sorts cl dd c) CW H p nm ws ∧ WvOk nm ws ∧ x ∈ nm ∧ NodeN K cl dd s l1 b1 x.adr H ∧ NodeN K cl dd t l2 b2 n H ∧ NkOk s ∧ NkOk t ∧ x.inf = infN s ∧ tksN t = tksN s ∧ gvsN t = gvsN s ∧ ∀ (q : Addr) (H' : Hp), Same H H' → H q = none → WvAt K (sorts cl dd c) CW H' q (putN nm x.name n) ws → Q (.ref q) H'
section
variable {P : Program} {w : World} {K : PySem.W.Frag} {mg : Str → Option Value} {base : Heap} {f f1 f2 f3 f4 f5 f6 f7 f8 f9 C CN CO CI CW CU dd : Addr} {cl : Srt → Addr} {fd fd1 fd2 fd3 fd4 fd5 fd6 fd7 fd8 fd9 : FuncData}
abbrev nWeavePut : List Str := ["self", "name", "node", "elder", "each"]
theorem scWeavePut : FnScope nWeavePut ["self", "name", "node"] (defScope sWeavePut) := ⟨rfl, rfl, rfl, by decide +kernel, rfl, by decide +kernel, by decide +kernel⟩
theorem ok_put (c : ClsS K cl CN CO CI) (F : FnM K "put" "Weave.put" sWeavePut f fd) (T : WvC K CW) (c0 : Cls K CW)
    (mN : Meth K CW "node" f1) (GN : FnOk P w K mg base CX0 3 f1 fd1 ["self", "name"] (spWvNode K (sorts cl dd c) CW)) (bN : Binds K fd1 ["self", "name"] [])
    (hT : ∀ A, A ∈ allS → MethC P w K mg base 1 "takes" ["self"] (spTkS K cl dd A) (cl A)) (hG : ∀ A, A ∈ allS → MethC P w K mg base 1 "gives" ["self"] (spGvS K cl dd A) (cl A))
    (MW : Mk K CW f2) (GW : FnOk P w K mg base CX0 5 f2 fd2 ["self", "nodes", "wires"] (spWvInit K (sorts cl dd c) CW)) (gW : mg "Weave" = some (.ref CW)) (bW : Binds K fd2 ["self", "nodes", "wires"] [])
    (gN : mg "Node" = some (.ref CN)) (gIs : mg "isinstance" = none) : FnOk P w K mg base CX0 7 f fd ["self", "name", "node"] (spPut K cl dd c CW) := by
  refine F.ok scWeavePut (fun vs H Q E h => ?_) (fun cdv A outer s0 H vs Q E hr h => ?_)
  · obtain ⟨p, n, nm, ws, x, s, t, l1, b1, l2, b2, rfl, _⟩ := h
    rfl
  · obtain ⟨p, n, nm, ws, x, s, t, l1, b1, l2, b2, rfl, wv, ok, xm, ns, nt, oks, okt, xi, e1, e2, kk⟩ := h
    have hu6 := hr.units
    have hu := hu_of hr
    have nd := scWeavePut.nd
    have hr6 : Room 6 _ := hr
    have hr3 : Room 3 _ := hr.mono (by decide)
    have hr1 : Room 1 _ := hr.mono (by decide)
    refine ⟨_, PSs.nox (pss_cons (ps_set (i := 3) nd rfl (Or.inl rfl) (pe_meth (pv 0) c0 mN GN hr3 bN .nil pass0 (pa_cons (pv 1) pa_nil)))
      (pss_cons (ps_if (pt_not (pt_val (pe_callB call_isi (by rfl) gIs boot_isinstance (pa_cons (pv 2) (pa_cons (pe_glob (v := .ref CN) rfl gN rfl) pa_nil))))) pss_never pss_nil)
      (pss_cons (ps_if (PW.pt (pw_or (pt_cmpR (op_neD hu6) (pe_methOf0 (As := allS) (cl := cl) (sp := spTkS K cl dd) (pv 2) hT hr1) (pe_methOf0 (As := allS) (cl := cl) (sp := spTkS K cl dd) (pv 3) hT hr1) (nomark _)) (pw_or1 (pt_cmpR op_ne (pe_methOf0 (As := allS) (cl := cl) (sp := spGvS K cl dd) (pv 2) hG hr1) (pe_methOf0 (As := allS) (cl := cl) (sp := spGvS K cl dd) (pv 3) hG hr1) (nomark _))))) pss_never pss_nil)
      (pss_one (ps_ret (pe_make MW GW hr6 rfl gW bW .nil pass0 (pa_cons (pe_lock (pe_lc (own := [("each", 4)]) (g := (gName 4)) (tt := tYes) rfl nd (pi_keys (pe_fld (pv 0) rfl)) (blkOk_by (N := nWeavePut) (sc := defScope sWeavePut) (by decide +kernel))
        (fun _ _ _ _ _ => (pg_name (i := 4) nd rfl (Or.inl rfl))) (fun _ _ _ _ _ => pts_nil) (fun _ _ _ _ _ => (pe_tup (pa_cons (pv 4) (pa_cons (pe_ifExp (pt_cmpR op_eq (pv 4) (pv 1) (nomark _)) (pv 2) (pe_dget hu (pe_fldK (K := K) rfl (pv 0) rfl) (pv 4) (fun _ _ => rfl))) pa_nil)))))) (pa_cons (pe_fld (pv 0) rfl) pa_nil)))))))), ?_⟩
    obtain ⟨dx, d, dl, ld, dv, hp, wf⟩ := id wv
    have fewN := ok.nms.few
    refine ⟨_, rfl, p, dx, _, rfl, hp, rfl, _, rfl, p, nm, ws, x, rfl, wv, ok.nms, xm, ?_⟩
    obtain ⟨dxn, fsn, hin, ntk, ngv, _⟩ := nt.no
    obtain ⟨dxs, fss, his, stk, sgv, _⟩ := ns.no
    refine ⟨_, rfl, _, _, _, _, true, rfl, ClsV.own _, (c.isN _).ty (c.nc _).cl hin, (c.isN _).kit, _, rfl, iteF_ rfl ?_⟩
    -- what they take
    refine ⟨_, rfl, srt t, n, dxn, fsn, mem_allS _, rfl, hin, ntk, n, tksN t, rfl, ⟨t, _, _, rfl, okt, rfl, nt⟩, fun t1 H1 s1 ht1 => ?_⟩
    refine ⟨_, rfl, srt s, x.adr, dxs, fss, mem_allS _, rfl, s1 _ _ his, stk, x.adr, tksN s, rfl, ⟨s, _, _, rfl, oks, rfl, ns.keep s1⟩, fun t2 H2 s2 ht2 => ?_⟩
    refine ⟨tkD (tksN t), tkD (tksN s), .tup (Same.tup s2 ht1) (tk_dp _), .tup ht2 (tk_dp _), tk_shaped _, tk_shaped _, _, rfl, iteF_ ?_ ?_⟩
    · rw [tk_eqv, decide_eq_true e1]
      rfl
    have t2' := s1.trans s2
    -- what they give
    refine ⟨_, rfl, srt t, n, dxn, fsn, mem_allS _, rfl, t2' _ _ hin, ngv, n, t, _, _, rfl, rfl, nt.keep t2', ?_⟩
    refine ⟨_, rfl, srt s, x.adr, dxs, fss, mem_allS _, rfl, t2' _ _ his, sgv, x.adr, s, _, _, rfl, rfl, ns.keep t2', ?_⟩
    rw [e2]
    refine ⟨rfl, _, rfl, iteF_ ?_ ?_⟩
    · rw [decide_eq_true rfl]
      rfl
    have hd := t2' _ _ wf.named
    have hp2 := t2' _ _ hp
    refine ⟨d, _, hd, trivial, fun oe => ?_⟩
    have hM : (upd H2 d (.frz oe (.dK (dNamed nm)))) d = some (.frz oe (.dK (dNamed nm))) := upd_same
    have hpM : (upd H2 d (.frz oe (.dK (dNamed nm)))) p = some (.ins CW dx (wvF d dl ld dv)) := lock_ne hd hp2 (fun _ z => by cases z)
    have freeM : ∀ {a : Addr}, (upd H2 d (.frz oe (.dK (dNamed nm)))) a = none → H2 a = none := fun {a} e => by
      by_cases z : a = d
      · rw [z, hM] at e
        cases e
      · rw [upd_ne z] at e
        exact e
    generalize eHM : upd H2 d (.frz oe (.dK (dNamed nm))) = HM at hM hpM freeM
    refine ⟨_, rfl, p, CW, dx, _, _, rfl, hpM, T.cl, T.n1, rfl, d, oe, rfl, .inl ⟨_, hM, fun st hst => ?_⟩⟩
    have nsd : st ≠ d := (ne_of_none hM hst).symm
    refine lc_it (walk_keys (d := d) (o := oe) (kvs := dNamed nm)) (fun j H' => (∃ qs, H' st = some (.lst qs) ∧ Al (PairAt K H') qs (putN (nm.take j) x.name n)) ∧ Same HM H') ⟨⟨[], upd_same, by rw [List.take_zero]; exact trivial⟩, Same.past (Same.refl _) hst⟩ (fun j H' _ e => e.2 _ _ hM) (fun j v H' H'' hj e y => ?_) (fun H3 e => ?_)
    · obtain ⟨⟨qs, hs1, al⟩, sm⟩ := e
      obtain ⟨rfl, k, v', ek, rfl⟩ := y
      obtain ⟨y, ey, rfl, rfl⟩ := dNamed_get ek
      have ym : y ∈ nm := List.mem_of_getElem? ey
      have stp : putN (nm.take (j + 1)) x.name n = putN (nm.take j) x.name n ++ [if y.name = x.name then ⟨y.name, n, y.inf⟩ else y] := by
        unfold putN
        rw [List.take_succ, ey, List.map_append]
        rfl
      have ll : (putN (nm.take j) x.name n).length ≤ 24 := by
        unfold putN
        rw [List.length_map, List.length_take]
        omega
      have fin : ∀ (b : Addr), (if y.name = x.name then (⟨y.name, n, y.inf⟩ : Nm) else y) = ⟨y.name, b, y.inf⟩ → 2 ≤ sizeLine ∧ ∀ t, H'' t = none → ∃ acc, upd H'' t (.tup [V.str y.name, .ref b]) st = some (.lst acc) ∧ acc.length < sizeLine ∧ (∃ qs, upd (upd H'' t (.tup [V.str y.name, .ref b])) st (.lst (acc ++ [.ref t])) st = some (.lst qs) ∧ Al (PairAt K (upd (upd H'' t (.tup [V.str y.name, .ref b])) st (.lst (acc ++ [.ref t])))) qs (putN (nm.take (j + 1)) x.name n)) ∧ Same HM (upd (upd H'' t (.tup [V.str y.name, .ref b])) st (.lst (acc ++ [.ref t]))) := fun b eb => by
        refine ⟨by decide, fun t ht => ?_⟩
        have sT := Same.new (o := .tup [V.str y.name, .ref b]) (Same.refl H'') ht
        refine ⟨_, sT _ _ hs1, ?_, ⟨_, upd_same, ?_⟩, Same.past (sm.trans sT) hst⟩
        · rw [al.len]
          exact Nat.lt_of_le_of_lt ll (by decide)
        · rw [stp, eb]
          exact Al.snoc (pair_upd (sT _ _ hs1) ⟨t, rfl, .inl (.inl upd_same)⟩) (al.imp fun pp y ⟨q, e, h⟩ => pair_upd (sT _ _ hs1) ⟨q, e, Same.tup sT h⟩)
      refine ⟨rfl, yes_ite ?_⟩
      refine ⟨_, rfl, _, rfl, _, rfl, rfl, _, rfl, ite2 (fun z => ?_) (fun z => ?_)⟩
      · have z : y.name = x.name := V.str.inj (of_decide_eq_true z)
        exact ⟨_, rfl, fin n (if_pos z)⟩
      · have z : y.name ≠ x.name := fun q => z (decide_eq_true (by rw [q]; rfl))
        exact ⟨_, rfl, p, CW, dx, _, _, rfl, sm _ _ hpM, T.cl, T.n1, rfl, _, rfl, d, _, rfl, .inl ⟨_, Sum.inr y.name, .inr ⟨oe, sm _ _ hM⟩, rfl, (valV_named ok.nms.nd ym).symm⟩, fin y.adr (if_neg z)⟩
    obtain ⟨⟨qs, hs1, al⟩, sm⟩ := e
    have dn : (dNamed nm).length = nm.length := by
      unfold dNamed
      rw [List.length_map]
    rw [dn, List.take_length] at al
    refine ⟨sm _ _ hM, ?_⟩
    have u3 : Same H2 (upd H3 d (.dK (dNamed nm))) := unlock hd (eHM ▸ sm)
    have pr3 : PairsAt K (upd H3 d (.dK (dNamed nm))) st (putN nm x.name n) := ⟨qs, by rw [upd_ne nsd]; exact hs1, al.imp fun pp y h => pair_unl (sm _ _ hM) h⟩
    generalize upd H3 d (.dK (dNamed nm)) = H4 at u3 pr3
    have t4 := t2'.trans u3
    refine ⟨_, rfl, p, CW, dx, _, _, rfl, t4 _ _ hp, T.cl, T.n3, rfl, ?_⟩
    have ndB : Nodes (sorts cl dd c) (putN nm x.name n) H4 := fun y hy => by
      unfold putN at hy
      obtain ⟨y0, hy0, rfl⟩ := List.mem_map.mp hy
      split
      · rename_i z
        have yx : y0 = x := nm_inj ok.nms.nd hy0 xm z
        rw [yx, xi, inf_like oks okt e1.symm e2.symm]
        exact (nt.keep t4).inn okt
      · exact (wf.nodes y0 hy0).keep t4
    exact fun q dxq nq ndq neq => ⟨H4, q, dxq, st, ld, putN nm x.name n, ws, rfl, Same.new (Same.new (Same.refl H4) ndq) (by rw [upd_ne neq.symm]; exact nq), nq, upd_same, pr3, wf.laid.keep t4, ok.congr (putN_map _ _ _), ndB, fun G sG wvn => ⟨rfl, kk q G (t4.trans sG) (t4.free nq) wvn.at⟩⟩
end
end Sw
namespace Sw
open PySem PySem.Spec PyProof.Rows L2
/-- what is not in B stays -/
def KN (B G F : Hp) : Prop := ∀ b o, B b = none → G b = some o → F b = some o
theorem KN.same {B G F : Hp} (s : Same G F) : KN B G F := fun b o _ e => s b o e
theorem KN.trans {B G F F' : Hp} (h : KN B G F) (h' : KN B F F') : KN B G F' := fun b o n e => h' b o n (h b o n e)
theorem KN.upd {B F : Hp} {q : Addr} {u o : HO} (h : B q = some u) : KN B F (L2.upd F q o) := fun b v n e => by
  rw [upd_ne (fun z => by rw [z, h] at n; cases n)]
  exact e
theorem WvAtN.to {K : PySem.W.Frag} {CN CO CI CW : Addr} {S : Sorts K CN CO CI} {B G F : Hp} {p : Addr} {nm : List Nm} {ws : List Wr} (h : WvAtN K S CW B G p nm ws) (bp : B p = none) (k : KN B G F) (kt : KT K G F) (nodes : Nodes S nm F) : WvAt K S CW F p nm ws := by
  obtain ⟨dx, d, dl, ld, dv, hp, wf, n1, n2, n3, n4, ⟨l1, li1⟩, l2, li2⟩ := h
  refine ⟨dx, d, dl, ld, dv, k _ _ bp hp, k _ _ n1 wf.named, ⟨l1, k _ _ n2 li1.hd, li1.len, li1.nd, fun a h => ⟨rfl, (li1.new a h).2⟩, fun i x la e1 e2 => k _ _ (li1.new la (List.mem_of_getElem? e2)).1 (li1.at_ i x la e1 e2)⟩, ?_, ⟨l2, k _ _ n4 li2.hd, li2.len, li2.nd, fun a h => ⟨rfl, (li2.new a h).2⟩, fun i x la e1 e2 => k _ _ (li2.new la (List.mem_of_getElem? e2)).1 (li2.at_ i x la e1 e2)⟩, nodes⟩
  obtain ⟨ps, h1, al⟩ := wf.laid
  exact ⟨ps, k _ _ n3 h1, al.imp fun v w ⟨q, e, h⟩ => ⟨q, e, kt _ _ h⟩⟩
theorem NodeN.kept {K : PySem.W.Frag} {cl : Srt → Addr} {dd a p : Addr} {k : Nk} {lt bg : Nat} {H H1 : Hp} (h : NodeN K cl dd k lt bg a H) (s : Kept p H H1) (hp : PotAt H p) : NodeN K cl dd k lt bg a H1 :=
  h.kt (KT.kept s hp) fun C dx fs e => by
    rw [e]
    refine s a _ (fun z => ?_) e
    obtain ⟨x, y, _, _, _, q⟩ := hp
    rw [z, q] at e
    cases e
/-! ### wires with other delays -/
def delW (ws : List Wr) (ds : List Nat) : List Wr := List.zipWith (fun c d => (⟨c.src, c.goal, c.place, d⟩ : Wr)) ws ds
theorem delW_len {ws : List Wr} {ds : List Nat} (h : ds.length = ws.length) : (delW ws ds).length = ws.length := by
  unfold delW
  rw [List.length_zipWith, h, Nat.min_self]
theorem delW_get {ws : List Wr} {ds : List Nat} {j : Nat} {c : Wr} {d : Nat} (e : ws[j]? = some c) (e' : ds[j]? = some d) : (delW ws ds)[j]? = some ⟨c.src, c.goal, c.place, d⟩ := by
  unfold delW
  rw [List.getElem?_zipWith, e, e']
theorem delW_inv {ws : List Wr} {ds : List Nat} (h : ds.length = ws.length) {j : Nat} {w : Wr} (e : (delW ws ds)[j]? = some w) : ∃ c d, ws[j]? = some c ∧ ds[j]? = some d ∧ w = ⟨c.src, c.goal, c.place, d⟩ := by
  have jl := (List.getElem?_eq_some_iff.mp e).1
  rw [delW_len h] at jl
  have e1 : ws[j]? = some ws[j] := List.getElem?_eq_getElem jl
  have e2 : ds[j]? = some (ds[j]'(by omega)) := List.getElem?_eq_getElem (by omega)
  rw [delW_get e1 e2] at e
  exact ⟨_, _, e1, e2, (Option.some.inj e).symm⟩
theorem delW_to {ws : List Wr} {ds : List Nat} (h : ds.length = ws.length) {c : Wr} (hc : c ∈ ws) : ∃ d, (⟨c.src, c.goal, c.place, d⟩ : Wr) ∈ delW ws ds := by
  obtain ⟨j, ej⟩ := List.getElem?_of_mem hc
  have jl := (List.getElem?_eq_some_iff.mp ej).1
  have e2 : ds[j]? = some (ds[j]'(by omega)) := List.getElem?_eq_getElem (by omega)
  exact ⟨_, List.mem_of_getElem? (delW_get ej e2)⟩
theorem WvOk.delayed {nm : List Nm} {ws : List Wr} {ds : List Nat} (ok : WvOk nm ws) (h : ds.length = ws.length) (hd : ∀ d ∈ ds, d ≤ 9999) : WvOk nm (delW ws ds) := by
  have inv : ∀ w ∈ delW ws ds, ∃ c d, c ∈ ws ∧ d ∈ ds ∧ w = ⟨c.src, c.goal, c.place, d⟩ := fun w hw => by
    obtain ⟨j, ej⟩ := List.getElem?_of_mem hw
    obtain ⟨c, d, e1, e2, e3⟩ := delW_inv h ej
    exact ⟨c, d, List.mem_of_getElem? e1, List.mem_of_getElem? e2, e3⟩
  refine ⟨ok.nms, by rw [delW_len h]; exact ok.few, fun w hw => ?_, fun w hw => ?_, fun w hw => ?_, fun i j w w' e e' g1 g2 => ?_, fun x hx p hp => ?_, fun x hx => ?_⟩
  · obtain ⟨c, d, hc, _, rfl⟩ := inv w hw
    exact ok.src c hc
  · obtain ⟨c, d, hc, _, rfl⟩ := inv w hw
    exact ok.goal c hc
  · obtain ⟨c, d, _, hd', rfl⟩ := inv w hw
    exact hd d hd'
  · obtain ⟨c, d, e1, _, rfl⟩ := delW_inv h e
    obtain ⟨c', d', e1', _, rfl⟩ := delW_inv h e'
    exact ok.one i j c c' e1 e1' g1 g2
  · obtain ⟨c, hc, g1, g2⟩ := ok.all x hx p hp
    obtain ⟨d, hd'⟩ := delW_to h hc
    exact ⟨_, hd', g1, g2⟩
  · have all : ∀ {s : Str}, Reach nm ws s → Reach nm (delW ws ds) s := fun {s} r => by
      induction r with
      | inl h i => exact .inl h i
      | step hc _ ih =>
        obtain ⟨d, hd'⟩ := delW_to h hc
        exact .step (w := ⟨_, _, _, d⟩) hd' ih
    exact all (ok.reach x hx)
theorem KT.off {K : PySem.W.Frag} {l : Addr} {H F : Hp} {ys : List V} (hl : H l = some (.lst ys)) (k : Kept l H F) : KT K H F := fun q xs h => by
  rcases h with (h | ⟨u, h⟩) | h
  · exact .inl (.inl (k.at hl h (fun z => by cases z)))
  · exact .inl (.inr ⟨u, k.at hl h (fun z => by cases z)⟩)
  · exact .inr h
def spDelayed (K : PySem.W.Frag) {CN CO CI : Addr} (S : Sorts K CN CO CI) (CW : Addr) : Sp := fun vs H Q _ => ∃ (p l : Addr) (nm : List Nm) (ws : List Wr) (ds : List Nat), vs = [.ref p, .ref l] ∧ WvAt K S CW H p nm ws ∧ WvOk nm ws ∧ H l = some (.lst (ds.map fun (d : Nat) => V.int (d : Int))) ∧ ds.length = ws.length ∧ (∀ d ∈ ds, d ≤ 9999) ∧ ∀ (q : Addr) (H' : Hp), Same H H' → H q = none → (∀ F, Kept l H' F → Nodes S nm F → WvAt K S CW F q nm (delW ws ds)) → Q (.ref q) H'
section
variable {P : Program} {w : World} {K : PySem.W.Frag} {mg : Str → Option Value} {base : Heap} {f f1 f2 f3 f4 f5 f6 f7 f8 f9 C CN CO CI CW CU dd : Addr} {cl : Srt → Addr} {fd fd1 fd2 fd3 fd4 fd5 fd6 fd7 fd8 fd9 : FuncData}
abbrev nWeaveDelayed : List Str := ["self", "delays", "rows", "source", "goal", "place", "elder", "delay"]
theorem scWeaveDelayed : FnScope nWeaveDelayed ["self", "delays"] (defScope sWeaveDelayed) := ⟨rfl, rfl, rfl, by decide +kernel, rfl, by decide +kernel, by decide +kernel⟩
theorem ok_delayed (S : Sorts K CN CO CI) (F : FnM K "delayed" "Weave.delayed" sWeaveDelayed f fd) (T : WvC K CW) (c0 : Cls K CW)
    (mP : Meth K CW "pairs" f1) (GP : FnOk P w K mg base CX0 1 f1 fd1 ["self"] (spWvPairs K S CW)) (bP : Binds K fd1 ["self"] [])
    (MW : Mk K CW f2) (GW : FnOk P w K mg base CX0 5 f2 fd2 ["self", "nodes", "wires"] (spWvInit K S CW)) (gW : mg "Weave" = some (.ref CW)) (bW : Binds K fd2 ["self", "nodes", "wires"] [])
    (gZip : mg "zip" = none) : FnOk P w K mg base CX0 7 f fd ["self", "delays"] (spDelayed K S CW) := by
  refine F.ok scWeaveDelayed (fun vs H Q E h => ?_) (fun cdv A outer s0 H vs Q E hr h => ?_)
  · obtain ⟨p, l, nm, ws, ds, rfl, _⟩ := h
    rfl
  · obtain ⟨p, l, nm, ws, ds, rfl, wv, ok, hl, dl0, dok, kk⟩ := h
    have hu := hu_of hr
    have nd := scWeaveDelayed.nd
    have hr6 : Room 6 _ := hr
    have hr1 : Room 1 _ := hr.mono (by decide)
    refine ⟨_, PSs.nox (pss_cons (ps_setLc (i := 2) (own := [("source", 3), ("goal", 4), ("place", 5), ("elder", 6), ("delay", 7)]) (g := (gTup K 2 (gCons (gTup K 4 (gCons (gName 3) (gCons (gName 4) (gCons (gName 5) (gCons (gName 6) gNil))))) (gCons (gName 7) gNil)))) (tt := tYes) rfl nd rfl rfl (sw_true rfl rfl rfl rfl) (pi_zip (by rfl) gZip (pa_cons (pe_fld (pv 0) rfl) (pa_cons (pv 1) pa_nil))) (blkOk_by (N := nWeaveDelayed) (sc := defScope sWeaveDelayed) (by decide +kernel))
        (fun _ _ _ _ _ => (pg_tup rfl (pgs_cons (pg_tup rfl (pgs_cons (pg_name (i := 3) nd rfl (Or.inl rfl)) (pgs_cons (pg_name (i := 4) nd rfl (Or.inl rfl)) (pgs_cons (pg_name (i := 5) nd rfl (Or.inl rfl)) (pgs_cons (pg_name (i := 6) nd rfl (Or.inl rfl)) pgs_nil))))) (pgs_cons (pg_name (i := 7) nd rfl (Or.inl rfl)) pgs_nil)))) (fun _ _ _ _ _ => pts_nil) (fun _ _ _ _ _ => (pe_tup (pa_cons (pv 3) (pa_cons (pv 4) (pa_cons (pv 5) (pa_cons (pv 7) pa_nil)))))))
      (pss_one (ps_ret (pe_make MW GW hr6 rfl gW bW .nil pass0 (pa_cons (pe_meth0 (pv 0) c0 mP GP hr1 bP .nil pass0) (pa_cons (pv 2) pa_nil)))))), ?_⟩
    obtain ⟨dx, d, dl, ld, dv, hp, wf⟩ := id wv
    obtain ⟨ps, hld, alw⟩ := id wf.laid
    have psl : ps.length = ws.length := alw.len
    refine ⟨_, rfl, p, CW, dx, _, _, rfl, hp, T.cl, T.n3, rfl, _, rfl, ld, l, _, _, rfl, SqL.of hld, SqL.of hl, fun D hD => ?_⟩
    refine lc_it (walk_zip (xs := ps) (ys := ds.map fun (d : Nat) => V.int (d : Int)) (n := ws.length) (by rw [List.length_map, psl, dl0, Nat.min_self])) (fun j H' => WiresAt K H' D ((delW ws ds).take j) ∧ Same H H') ⟨⟨[], upd_same, by rw [List.take_zero]; exact trivial⟩, Same.past (Same.refl _) hD⟩ (fun j H' _ e => ⟨SqL.of (e.2 _ _ hld), SqL.of (e.2 _ _ hl)⟩) (fun j v H' H'' hj e y => ?_) (fun H1 e => ?_)
    · obtain ⟨⟨qs, hd, alq⟩, sm⟩ := e
      obtain ⟨TT, a, b, rfl, hT, rfl, ea, eb⟩ := y
      have ea : ps[j]? = some a := ea
      have eb : (ds.map fun (d : Nat) => V.int (d : Int))[j]? = some b := eb
      obtain ⟨c, ec, q, rfl, hq⟩ := alw.get ea
      rw [List.getElem?_map] at eb
      obtain ⟨dn, edn, rfl⟩ := Option.map_eq_some_iff.mp eb
      have sT := Same.new (o := .tup [V.ref q, V.int (dn : Int)]) (Same.refl H') hT
      have hqT := Same.tup (sm.trans sT) hq
      refine ⟨TT, _, rfl, .inl (.inl upd_same), rfl, _, _, rfl, ?_⟩
      generalize upd H' TT (.tup [V.ref q, V.int (dn : Int)]) = G1 at sT hqT
      refine ⟨q, _, rfl, hqT, rfl, ?_⟩
      refine ⟨_, _, rfl, _, _, rfl, _, _, rfl, _, _, rfl, rfl, _, _, rfl, rfl, rfl, yes_ite ?_⟩
      refine ⟨_, rfl, _, rfl, _, rfl, _, rfl, (by show 4 ≤ sizeLine; decide), fun t ht => ?_⟩
      have s2 := Same.new (o := .tup [V.str c.src, V.str c.goal, V.int (c.place : Int), V.int (dn : Int)]) (Same.refl G1) ht
      have ht2 : upd G1 t (.tup [V.str c.src, V.str c.goal, V.int (c.place : Int), V.int (dn : Int)]) t = some (.tup [V.str c.src, V.str c.goal, V.int (c.place : Int), V.int (dn : Int)]) := upd_same
      generalize upd G1 t (.tup [V.str c.src, V.str c.goal, V.int (c.place : Int), V.int (dn : Int)]) = G2 at s2 ht2
      have u2 := sT.trans s2
      have kt : KT K G2 (upd G2 D (.lst (qs ++ [V.ref t]))) := KT.lst (u2 _ _ hd)
      refine ⟨qs, u2 _ _ hd, ?_, ⟨_, upd_same, ?_⟩, Same.past (sm.trans u2) hD⟩
      · have l1 := alq.len
        have l2 := delW_len dl0
        have := ok.few
        rw [List.length_take] at l1
        exact Nat.lt_of_lt_of_le (show _ < 100 by omega) (by decide)
      · rw [List.take_succ, delW_get ec edn]
        exact Al.snoc ⟨t, rfl, kt _ _ (.inl (.inl ht2))⟩ (alq.imp fun v x ⟨q, e, h⟩ => ⟨q, e, kt _ _ (Same.tup u2 h)⟩)
    obtain ⟨wrs, s1⟩ := e
    rw [List.take_of_length_le (by rw [delW_len dl0]; exact Nat.le_refl _)] at wrs
    refine ⟨_, rfl, p, dx, _, rfl, s1 _ _ hp, rfl, p, nm, ws, rfl, wv.keep s1, ok.nms, fun pl H2 s2 fpl hpl => ?_⟩
    have t2 := s1.trans s2
    refine ⟨_, rfl, ?_⟩
    have ndB : Nodes S nm H2 := fun x hx => (wf.nodes x hx).keep t2
    exact fun q dxq nq ndq neq => ⟨H2, q, dxq, pl, D, nm, delW ws ds, rfl, Same.new (Same.new (Same.refl H2) ndq) (by rw [upd_ne neq.symm]; exact nq), nq, upd_same, hpl, wrs.keep s2, ok.delayed dl0 dok, ndB, fun G sG wvn => ⟨rfl, kk q G (t2.trans sG) (t2.free nq) fun F kF nF => wvn.to nq (fun b o n e => kF b o (fun z => by rw [z, t2 _ _ hl] at n; cases n) e) (KT.off ((t2.trans sG) _ _ hl) kF) nF⟩⟩
end
end Sw
namespace Sw
open PySem PySem.Spec PyProof.Rows L2
/-! ### the first queues -/
structure Nd where
  name : Str
  k : Nk
  lt : Nat
  bg : Nat
def NdOk (n : Nd) : Prop := NkOk n.k ∧ LbOk n.k n.lt n.bg
def NmN (K : PySem.W.Frag) (cl : Srt → Addr) (dd : Addr) (H : Hp) (x : Nm) (n : Nd) : Prop := x.name = n.name ∧ x.inf = infN n.k ∧ NodeN K cl dd n.k n.lt n.bg x.adr H
theorem NmN.keep {K : PySem.W.Frag} {cl : Srt → Addr} {dd : Addr} {H H1 : Hp} {x : Nm} {n : Nd} (h : NmN K cl dd H x n) (s : Same H H1) : NmN K cl dd H1 x n := ⟨h.1, h.2.1, h.2.2.keep s⟩
/-- what stands in a node's rows ahead of the first round, by its name -/
def furth (ns : List Nd) (s : Str) : Nat := match ns.find? (fun n => decide (n.name = s)) with
  | some n => n.lt * gvsN n.k
  | none => 0
theorem furth_eq : ∀ {ns : List Nd}, (ns.map Nd.name).Nodup → ∀ {n : Nd}, n ∈ ns → furth ns n.name = n.lt * gvsN n.k
  | [], _, _, h => by cases h
  | m :: r, nd, n, h => by
    rw [List.map_cons] at nd
    obtain ⟨nd1, nd2⟩ := List.nodup_cons.mp nd
    unfold furth
    rw [List.find?_cons]
    by_cases z : m.name = n.name
    · rw [decide_eq_true z]
      rcases List.mem_cons.mp h with rfl | h
      · rfl
      · exact absurd (List.mem_map.mpr ⟨n, h, z.symm⟩) nd1
    · rw [decide_eq_false z]
      rcases List.mem_cons.mp h with rfl | h
      · exact absurd rfl z
      · exact furth_eq nd2 h
theorem nmN_names {K : PySem.W.Frag} {cl : Srt → Addr} {dd : Addr} {H : Hp} : ∀ {nm : List Nm} {ns : List Nd}, Al (NmN K cl dd H) nm ns → nm.map Nm.name = ns.map Nd.name
  | [], [], _ => rfl
  | x :: nm, n :: ns, h => by rw [List.map_cons, List.map_cons, nmN_names h.2, h.1.1]
  | [], _ :: _, h => h.elim
  | _ :: _, [], h => h.elim
def lensV (ns : List Nd) (b : Bool) (ws : List Wr) : List V := ws.map fun w => V.int ((w.delay + (if b then furth ns w.src else 0) : Nat) : Int)
def spFirst (K : PySem.W.Frag) {CN CO CI : Addr} (cl : Srt → Addr) (dd : Addr) (c : ClsS K cl CN CO CI) (CW : Addr) : Sp := fun vs H Q _ => ∃ (p : Addr) (b : Bool) (nm : List Nm) (ws : List Wr) (ns : List Nd), vs = [.ref p, .bl b] ∧ WvAt K (sorts cl dd c) CW H p nm ws ∧ WvOk nm ws ∧ Al (NmN K cl dd H) nm ns ∧ (∀ n ∈ ns, NdOk n) ∧ ∀ (l : Addr) (H' : Hp), Same H H' → H l = none → H' l = some (.lst (lensV ns b ws)) → Q (.ref l) H'
section
variable {P : Program} {w : World} {K : PySem.W.Frag} {mg : Str → Option Value} {base : Heap} {f f1 f2 f3 f4 f5 f6 f7 f8 f9 C CN CO CI CW CU dd : Addr} {cl : Srt → Addr} {fd fd1 fd2 fd3 fd4 fd5 fd6 fd7 fd8 fd9 : FuncData}
abbrev nFirstQueues : List Str := ["weave", "lates", "lengths", "source", "goal", "place", "delay", "node", "further"]
theorem scFirstQueues : FnScope nFirstQueues ["weave", "lates"] (defScope sFirstQueues) := ⟨rfl, rfl, rfl, by decide +kernel, rfl, by decide +kernel, by decide +kernel⟩
theorem ok_first {dvs : List V} {kws : List (Str × V)} (c : ClsS K cl CN CO CI) (F : FunD K "first_queues" "first_queues" (defArgs sFirstQueues) (defBody sFirstQueues) (defScope sFirstQueues) dvs kws f fd) (c0 : Cls K CW)
    (mW : Meth K CW "wires" f1) (GW : FnOk P w K mg base CX0 1 f1 fd1 ["self"] (spWvWires K (sorts cl dd c) CW)) (bW : Binds K fd1 ["self"] [])
    (mN : Meth K CW "node" f2) (GN : FnOk P w K mg base CX0 3 f2 fd2 ["self", "name"] (spWvNode K (sorts cl dd c) CW)) (bN : Binds K fd2 ["self", "name"] [])
    (hL : ∀ A, A ∈ allS → MethC P w K mg base 1 "late" ["self"] (spLtS K cl dd A) (cl A)) (hG : ∀ A, A ∈ allS → MethC P w K mg base 1 "gives" ["self"] (spGvS K cl dd A) (cl A)) : FnOk P w K mg base CX0 4 f fd ["weave", "lates"] (spFirst K cl dd c CW) := by
  refine F.ok scFirstQueues (fun vs H Q E h => ?_) (fun cdv A outer s0 H vs Q E hr h => ?_)
  · obtain ⟨p, b, nm, ws, ns, rfl, _⟩ := h
    rfl
  · obtain ⟨p, b, nm, ws, ns, rfl, wv, ok, al, oks, kk⟩ := h
    have nd := scFirstQueues.nd
    have hr3 : Room 3 _ := hr
    have hr1 : Room 1 _ := hr.mono (by decide)
    refine ⟨_, PSs.nox (pss_cons (ps_set (i := 2) nd rfl (Or.inl rfl) (pe_lst pa_nil))
      (pss_cons (ps_for PassesOwn.never rfl (pi_list (pe_meth0 (pv 0) c0 mW GW hr1 bW .nil pass0)) (pg_tup rfl (pgs_cons (pg_name (i := 3) nd rfl (Or.inl rfl)) (pgs_cons (pg_name (i := 4) nd rfl (Or.inl rfl)) (pgs_cons (pg_name (i := 5) nd rfl (Or.inl rfl)) (pgs_cons (pg_name (i := 6) nd rfl (Or.inl rfl)) pgs_nil)))))
      (pss_cons (ps_set (i := 7) nd rfl (Or.inl rfl) (pe_meth (pv 0) c0 mN GN hr3 bN .nil pass0 (pa_cons (pv 3) pa_nil)))
      (pss_cons (ps_set (i := 8) nd rfl (Or.inl rfl) (pe_ifExp (pt_val (pv 1)) (pe_op op_mul (pe_methOf0 (As := allS) (cl := cl) (sp := spLtS K cl dd) (pv 7) hL hr1) (pe_methOf0 (As := allS) (cl := cl) (sp := spGvS K cl dd) (pv 7) hG hr1)) pe_int))
      (pss_one (ps_expr (pe_bm PySem.F.plainAttrs_list PySem.F.slot_list_append PySem.F.type_list_append mt_append (pv 2) (pa_cons (pe_op op_add (pv 6) (pv 8)) pa_nil)))))))
      (pss_one (ps_ret (pv 2))))), ?_⟩
    refine ⟨by decide, fun q hq => ?_⟩
    obtain ⟨dx, d, dl, ld, dv, hp, _⟩ := id wv
    have sq : ∀ {G : Hp} {o : HO}, Same H G → Same H (L2.upd G q o) := fun s => Same.past s hq
    have s0 : Same H (upd H q (.lst [])) := Same.new (Same.refl H) hq
    have g0 : upd H q (.lst []) q = some (.lst []) := upd_same
    generalize upd H q (.lst []) = G0 at s0 g0
    refine ⟨_, rfl, p, dx, _, rfl, s0 _ _ hp, rfl, p, nm, ws, rfl, wv.keep s0, fun l H1 s1 fl hl => ?_⟩
    obtain ⟨ps, hl1, alw⟩ := hl
    have t1 := s0.trans s1
    have g1 := s1 _ _ g0
    have nlq : l ≠ q := (ne_of_none g0 fl).symm
    have fsrc : ∀ w ∈ ws, ∃ x ∈ nm, ∃ n ∈ ns, x.name = w.src ∧ NmN K cl dd H x n := fun w hw => by
      obtain ⟨x, hx, e, _⟩ := ok.src w hw
      obtain ⟨i, ei⟩ := List.getElem?_of_mem hx
      obtain ⟨n, en, h⟩ := al.get ei
      exact ⟨x, hx, n, List.mem_of_getElem? en, e, h⟩
    have nodup : (ns.map Nd.name).Nodup := by
      rw [← nmN_names al]
      exact ok.nms.nd
    refine ⟨l, rfl, ⟨_, SqL.of hl1⟩, ?_⟩
    refine for_list (xs := ps) (fun j σ G => ∃ (w3 w4 w5 w6 w7 w8 : Option V), σ = [some (.ref p), some (.bl b), some (.ref q), w3, w4, w5, w6, w7, w8] ∧ G = upd H1 q (.lst (lensV ns b (ws.take j)))) ⟨_, _, _, _, _, _, rfl, ?_⟩ (fun j σ G _ e => by
      obtain ⟨_, _, _, _, _, _, _, rfl⟩ := e
      exact SqL.of (by rw [upd_ne nlq]; exact hl1)) ?_ ?_
    · rw [List.take_zero]
      funext a
      by_cases z : a = q
      · rw [z, upd_same, g1]
        rfl
      · rw [upd_ne z]
    · rintro j v σ G ev ⟨w3, w4, w5, w6, w7, w8, rfl, eG⟩
      obtain ⟨w, ew, q2, rfl, hq2⟩ := alw.get ev
      have wm : w ∈ ws := List.mem_of_getElem? ew
      have jl := (List.getElem?_eq_some_iff.mp ew).1
      have few := ok.few
      have sG : Same H G := by
        rw [eG]
        exact sq t1
      have gq : G q = some (.lst (lensV ns b (ws.take j))) := by
        rw [eG]
        exact upd_same
      have hqG : SqT K G q2 [.str w.src, .str w.goal, .int (w.place : Int), .int (w.delay : Int)] := by
        rw [eG]
        exact KT.lst g1 _ _ hq2
      obtain ⟨x, xm, n, nm', ex, e1, e2, hn⟩ := fsrc w wm
      have ok1 := oks n nm'
      have hnG := hn.keep sG
      obtain ⟨dxn, fsn, hin, _, ngv, nlt⟩ := hnG.no
      have fin : ∀ (z : Nat), z = (if b then furth ns w.src else 0) → ∃ (w3 w4 w5 w6 w7 w8 : Option V), True := fun _ _ => ⟨none, none, none, none, none, none, trivial⟩
      refine ⟨q2, _, rfl, hqG, rfl, _, _, rfl, _, _, rfl, _, _, rfl, _, _, rfl, rfl, ?_⟩
      refine ⟨_, rfl, p, dx, _, rfl, sG _ _ hp, rfl, _, rfl, p, nm, ws, x, by rw [ex]; rfl, wv.keep sG, ok.nms, xm, ?_⟩
      have lens1 : lensV ns b (ws.take (j + 1)) = lensV ns b (ws.take j) ++ [.int ((w.delay + (if b then furth ns w.src else 0) : Nat) : Int)] := by
        unfold lensV
        rw [List.take_succ, ew, List.map_append]
        rfl
      have lenl : (lensV ns b (ws.take j)).length < sizeLine := by
        unfold lensV
        rw [List.length_map, List.length_take]
        exact Nat.lt_of_lt_of_le (show _ < 100 by omega) (by decide)
      have fu : furth ns w.src = n.lt * gvsN n.k := by
        rw [← ex, e1]
        exact furth_eq nodup nm'
      have GG : ∀ v : V, v = .int ((w.delay + (if b then furth ns w.src else 0) : Nat) : Int) → upd G q (.lst (lensV ns b (ws.take j) ++ [v])) = upd H1 q (.lst (lensV ns b (ws.take (j + 1)))) := fun v e => by
        rw [eG, upd_upd, lens1, e]
      cases b with
      | false =>
        refine ⟨_, rfl, _, rfl, iteF ?_⟩
        exact ⟨_, rfl, .inl ⟨rfl, _, SqL.of gq⟩, _, rfl, _, rfl, _, _, rfl, rfl, q, _, _, rfl, rfl, gq, lenl, _, _, _, _, _, _, rfl, GG _ (by simp)⟩
      | true =>
        refine ⟨_, rfl, _, rfl, iteT ?_⟩
        refine ⟨_, rfl, srt n.k, x.adr, dxn, fsn, mem_allS _, rfl, hin, nlt, x.adr, n.k, n.lt, n.bg, rfl, rfl, ok1.2, hnG, ?_⟩
        have l99 := ok1.2.1
        refine ⟨_, rfl, srt n.k, x.adr, dxn, fsn, mem_allS _, rfl, hin, ngv, x.adr, n.k, n.lt, n.bg, rfl, rfl, hnG, _, _, rfl, rfl, .inl ⟨by omega, by omega⟩, ?_⟩
        exact ⟨_, rfl, .inl ⟨rfl, _, SqL.of gq⟩, _, rfl, _, rfl, _, _, rfl, rfl, q, _, _, rfl, rfl, gq, lenl, _, _, _, _, _, _, rfl, GG _ (by rw [fu]; simp)⟩
    · rintro σ G ⟨w3, w4, w5, w6, w7, w8, rfl, eG⟩
      rw [alw.len, List.take_length] at eG
      refine ⟨_, rfl, kk q G ?_ hq ?_⟩
      · rw [eG]
        exact sq t1
      · rw [eG]
        exact upd_same
end
end Sw
namespace Sw
open PySem PySem.Spec PyProof.Rows L2
/-! ### lists mixed, names -/
theorem PotAt.ne {H : Hp} {p l : Addr} (h : PotAt H p) (n : H l = none) : l ≠ p := fun z => by
  obtain ⟨_, _, _, _, _, hx⟩ := h
  rw [z, hx] at n
  cases n
theorem PotAt.upd {H : Hp} {p l : Addr} {o : HO} (h : PotAt H p) (n : l ≠ p) : PotAt (L2.upd H l o) p := by
  obtain ⟨a, b, h1, h2, h3, h4⟩ := h
  exact ⟨a, b, h1, h2, h3, by rw [upd_ne n.symm]; exact h4⟩
theorem Kept.free {p l : Addr} {H H' : Hp} (k : Kept p H H') (hp : PotAt H' p) (h : H' l = none) : H l = none := by
  cases e : H l with
  | none => rfl
  | some o =>
    rw [k l o (hp.ne h) e] at h
    cases h
def strsD (ts : List Str) : PyData := .list (ts.map PyData.str)
theorem dp_strs {K : PySem.W.Frag} {H : Hp} : ∀ ts : List Str, DpAll K H (ts.map V.str) (ts.map PyData.str)
  | [] => .nil
  | t :: r => .cons (.str t) (dp_strs r)
theorem nm_strOk {x : Str} (h : NmOk x) : PyData.strOk x = true := by
  unfold PyData.strOk
  rw [← Array.all_toList, List.all_eq_true]
  intro c hc
  have : ∀ c ∈ letters.cps.toList, decide (c < 1114112) = true := by decide +kernel
  exact this c (h.2.2 c hc)
theorem lay_strs : ∀ ts : List Str, (∀ t ∈ ts, NmOk t) → PyData.canLayAll0 (ts.map PyData.str) = true
  | [], _ => rfl
  | t :: r, h => by
    rw [List.map_cons, PyData.canLayAll0, lay_strs r fun z hz => h z (List.mem_cons_of_mem _ hz), PyData.canLay0, nm_strOk (h t List.mem_cons_self)]
    rfl
theorem depth_strs : ∀ ts : List Str, PyData.depthAll (ts.map PyData.str) = 0
  | [] => by rw [List.map_nil, PyData.depthAll]
  | t :: r => by
    rw [List.map_cons, PyData.depthAll, depth_strs r, PyData.depth]
    rfl
theorem shaped_strs {ts : List Str} (h : ∀ t ∈ ts, NmOk t) : SeqAt.shaped (strsD ts) = true := by
  unfold SeqAt.shaped strsD
  rw [PyData.canLay0, lay_strs ts h, PyData.depth, depth_strs]
  rfl
theorem eqv_strs_nil {ts : List Str} : PyData.eqv (strsD ts) (strsD []) = decide (ts = []) := by
  cases ts with
  | nil => rfl
  | cons t r => rfl
theorem four_at {d : Int} (h0 : 0 ≤ d) (h4 : d < 4) : ∃ m : Nat, atI [V.int 1, V.int 2, V.int 3, V.int 8] d = some (.int (m : Int)) ∧ 1 ≤ m ∧ m ≤ 8 := by
  have : d = 0 ∨ d = 1 ∨ d = 2 ∨ d = 3 := by omega
  rcases this with rfl | rfl | rfl | rfl
  · exact ⟨1, rfl, by decide, by decide⟩
  · exact ⟨2, rfl, by decide, by decide⟩
  · exact ⟨3, rfl, by decide, by decide⟩
  · exact ⟨8, rfl, by decide, by decide⟩
theorem nmOk_cut {a b : Str} (ha : NmOk a) (hb : NmOk b) : NmOk (cutS (a ++ b) none (some 8)) := by
  obtain ⟨a1, a2, a3⟩ := ha
  obtain ⟨b1, b2, b3⟩ := hb
  rw [len_tl] at a1 a2 b1 b2
  have e : (cutS (a ++ b) none (some 8)).cps.toList = (a.cps.toList ++ b.cps.toList).take 8 := by
    unfold cutS
    rw [HT.sIx_none, Nat.sub_zero, List.drop_zero]
    show ((a ++ b).cps.toList).take _ = _
    have e1 : (a ++ b).cps.toList = a.cps.toList ++ b.cps.toList := TL.tl_append a b
    rw [e1, len_tl, e1]
    have e2 : HT.sIx (a.cps.toList ++ b.cps.toList).length (a.cps.toList ++ b.cps.toList).length (some 8) = min 8 (a.cps.toList ++ b.cps.toList).length := HT.sIx_nat _ _ 8
    rw [e2]
    by_cases h : 8 ≤ (a.cps.toList ++ b.cps.toList).length
    · rw [Nat.min_eq_left h]
    · rw [Nat.min_eq_right (by omega), List.take_of_length_le (Nat.le_refl _), List.take_of_length_le (by omega)]
  refine nmOk_of ?_ ?_ fun c hc => ?_
  · rw [e, List.length_take, List.length_append]
    omega
  · rw [e, List.length_take]
    omega
  · rw [e] at hc
    rcases List.mem_append.mp (List.mem_of_mem_take hc) with h | h
    · exact a3 c h
    · exact b3 c h
theorem nat_of {d m : Int} (h0 : 0 ≤ d) (h1 : d < m) : ∃ n : Nat, d = (n : Int) ∧ (n : Int) < m := ⟨d.toNat, by omega, by omega⟩
theorem erase_perm {α : Type} : ∀ {l : List α} {k : Nat} (h : k < l.length), (l[k] :: l.eraseIdx k).Perm l
  | [], k, h => absurd h (Nat.not_lt_zero k)
  | a :: r, 0, _ => List.Perm.refl _
  | a :: r, k + 1, h => by
    have h' : k < r.length := by simpa using h
    exact (List.Perm.swap _ _ _).trans ((erase_perm h').cons a)
theorem seqIndex_nat {n : Nat} {k : Nat} (h : k < n) : seqIndex? (k : Int) n = some k := by
  unfold seqIndex?
  simp
  omega
def rLenS (K : PySem.W.Frag) : List V → Hp → VK → Prop := fun xs H Q => ∃ p ys, xs = [.ref p] ∧ (SqL K H p ys ∨ SqT K H p ys) ∧ Q (.int ys.length) H
def spMixed (K : PySem.W.Frag) : Sp := fun vs H Q _ => ∃ (p l : Addr) (xs : List V), vs = [.ref p, .ref l] ∧ PotAt H p ∧ l ≠ p ∧ H l = some (.lst xs) ∧ xs.length ≤ 1000 ∧ ∀ (l' : Addr) (ys : List V) (H' : Hp), ys.Perm xs → H l' = none → Kept p H H' → PotAt H' p → H' l' = some (.lst ys) → Q (.ref l') H'
def spNames : Sp := fun vs H Q _ => ∃ (p l : Addr) (m : Nat) (ts : List Str), vs = [.ref p, .int (m : Int), .ref l] ∧ PotAt H p ∧ l ≠ p ∧ H l = some (.lst (ts.map V.str)) ∧ ts.length + m ≤ 25 ∧ (∀ t ∈ ts, NmOk t) ∧ ∀ (l' : Addr) (xs : List Str) (H' : Hp), xs.length = m → xs.Nodup → (∀ x ∈ xs, NmOk x ∧ x ∉ ts) → H l' = none → Kept p H H' → PotAt H' p → H' l' = some (.lst (xs.map V.str)) → Q (.ref l') H'
section
variable {P : Program} {w : World} {K : PySem.W.Frag} {mg : Str → Option Value} {base : Heap} {f f1 f2 f3 f4 f5 f6 f7 f8 f9 C CN CO CI CW dd : Addr} {cl : Srt → Addr} {fd fd1 fd2 fd3 fd4 fd5 fd6 fd7 fd8 fd9 : FuncData}
abbrev nLMixed : List Str := ["_law_pot_here", "_law_some", "_law_left", "_law_turn"]
theorem scLMixed : FnScope nLMixed ["_law_pot_here", "_law_some"] (defScope sLMixed) := ⟨rfl, rfl, rfl, by decide +kernel, rfl, by decide +kernel, by decide +kernel⟩
theorem ok_mixed (F : FnP K "_law_mixed" sLMixed f fd) (GD : FnOk P w K mg base CX0 1 f1 fd1 ["_law_pot_here", "_law_many"] spDigit) (gD : mg "_law_digit" = some (.ref f1)) (kD : PySem.W.keepIn K (.ref f1) = true) (bD : Binds K fd1 ["_law_pot_here", "_law_many"] []) (gLen : mg "len" = none) (gList : mg "list" = none) (gRange : mg "range" = none) : FnOk P w K mg base CX0 2 f fd ["_law_pot_here", "_law_some"] (spMixed K) := by
  refine F.ok scLMixed (fun vs H Q E h => ?_) (fun cdv A ou s H vs Q E hr h => ?_)
  · obtain ⟨p, l, xs, rfl, _⟩ := h
    rfl
  · obtain ⟨p, l, xs, rfl, hp, nlp0, hl, few, kk⟩ := h
    have nd := scLMixed.nd
    have hu := hr.units
    have hr1 : Room 1 _ := hr
    refine ⟨_, PSs.nox (pss_cons (ps_set (i := 2) nd rfl (Or.inr rfl) (pe_callTy call_list_of (by rfl) gList PyProof.Rows.boot_list (pa_cons (pv 1) pa_nil)))
      (pss_cons (ps_if (pt_cmpR op_eq (pe_call GD hr1 rfl gD kD bD .nil pass0 (pa_cons (pv 0) (pa_cons pe_int pa_nil))) pe_int (nomark _)) (pss_one (ps_ret (pv 2))) pss_nil)
      (pss_one (ps_ret (pe_lc (own := [("_law_turn", 3)]) (g := (gName 3)) (tt := tYes) rfl nd (pi_range1 rfl gRange (pa_cons (pe_callB call_len_seq (by rfl) gLen PySem.boot_len (pa_cons (pv 1) pa_nil)) pa_nil)) (blkOk_by (N := nLMixed) (sc := defScope sLMixed) (by decide +kernel))
        (fun _ _ _ _ _ => (pg_name (i := 3) nd rfl (Or.inl rfl))) (fun _ _ _ _ _ => pts_nil) (fun _ _ _ _ _ => (PE.k (K := K) (t := fun K0 => tBM K0 "list" rPopAt (tVar 2) (tCons (tCall spDigit [] E0 (tCons (tVar 0) (tCons (tCB (rLenS K) (tCons (tVar 2) tNil)) tNil))) tNil)) rfl (pe_bm PySem.F.plainAttrs_list PySem.F.slot_list_pop PySem.F.type_list_pop mt_popAt (pv 2) (pa_cons (pe_call GD hr1 rfl gD kD bD .nil pass0 (pa_cons (pv 0) (pa_cons (pe_callB (call_len_seqK (K := K) rfl) (by rfl) gLen PySem.boot_len (pa_cons (pv 2) pa_nil)) pa_nil))) pa_nil))))))))), ?_⟩
    refine ⟨_, rfl, l, _, rfl, .inl (SqL.of hl), fun lf hlf => ?_⟩
    have s1 := Same.new (o := .lst xs) (Same.refl H) hlf
    have hlf1 : (upd H lf (.lst xs)) lf = some (.lst xs) := upd_same
    have nlp : lf ≠ p := hp.ne hlf
    generalize upd H lf (.lst xs) = H1 at s1 hlf1
    refine ⟨_, rfl, p, _, rfl, hp.keep s1, by decide, by decide, fun d H2 d0 d1 k2 hp2 => ⟨rfl, _, rfl, ?_⟩⟩
    have k12 : Kept p H H2 := (Kept.same s1).trans k2
    have hlf2 := k2 _ _ nlp hlf1
    refine ite2 (fun _ => ?_) (fun _ => ?_)
    · exact ⟨_, rfl, kk lf xs H2 (List.Perm.refl _) hlf k12 hp2 hlf2⟩
    have hl2 : H2 l = some (.lst xs) := k12 _ _ nlp0 hl
    refine ⟨_, rfl, l, _, rfl, .inl (SqL.of hl2), _, rfl, by omega, by omega, fun D hD => ?_⟩
    rw [Int.toNat_natCast]
    have nDl : D ≠ lf := (ne_of_none hlf2 hD).symm
    have nDp := hp2.ne hD
    have nDH := k12.free hp2 hD
    refine lc_range (fun i H' => ∃ ls fs : List V, H' lf = some (.lst ls) ∧ H' D = some (.lst fs) ∧ fs.length = i ∧ (fs ++ ls).Perm xs ∧ Kept p H H' ∧ PotAt H' p) ⟨xs, [], by rw [upd_ne nDl.symm]; exact hlf2, upd_same, rfl, by rw [List.nil_append], k12.past nDH, hp2.upd nDp⟩ (fun i H' hi e => ?_) (fun H3 e => ?_)
    · obtain ⟨ls, fs, hL, hF, fl, pm, kG, hpG⟩ := e
      have lx := pm.length_eq
      rw [List.length_append] at lx
      refine ⟨rfl, yes_ite ?_⟩
      refine ⟨_, rfl, .inl ⟨rfl, _, SqL.of hL⟩, _, rfl, _, rfl, lf, _, rfl, .inl (SqL.of hL), p, _, rfl, hpG, by omega, by omega, fun d H4 d0 d1 k4 hp4 => ?_⟩
      obtain ⟨k, rfl, k1⟩ := nat_of d0 d1
      have kl : k < ls.length := by omega
      have hL4 := k4 _ _ nlp hL
      have hF4 := k4 _ _ nDp hF
      refine ⟨lf, _, _, k, ls[k], rfl, rfl, hL4, by omega, by omega, seqIndex_nat kl, List.getElem?_eq_getElem kl, ?_⟩
      refine ⟨fs, by rw [upd_ne nDl]; exact hF4, ?_, ls.eraseIdx k, fs ++ [ls[k]], ?_, upd_same, by rw [List.length_append, fl]; rfl, ?_, ((kG.trans k4).past hlf).past nDH, (hp4.upd nlp).upd nDp⟩
      · exact Nat.lt_of_lt_of_le (show fs.length < 1001 by omega) (by decide)
      · rw [upd_ne nDl.symm]
        exact upd_same
      · rw [List.append_assoc]
        exact (List.Perm.append_left fs (erase_perm kl)).trans pm
    · obtain ⟨ls, fs, hL, hF, fl, pm, kG, hpG⟩ := e
      have lx := pm.length_eq
      rw [List.length_append] at lx
      have l0 : ls = [] := List.length_eq_zero_iff.mp (by omega)
      rw [l0, List.append_nil] at pm
      exact kk D fs H3 pm nDH kG hpG hF
abbrev nLNames : List Str := ["_law_pot_here", "_law_many", "_law_taken", "_law_letters", "_law_names_here", "_law_k", "_law_name", "_law_turn", "_law_letter"]
theorem scLNames : FnScope nLNames ["_law_pot_here", "_law_many", "_law_taken"] (defScope sLNames) := ⟨rfl, rfl, rfl, by decide +kernel, rfl, by decide +kernel, by decide +kernel⟩
theorem ok_names (F : FnP K "_law_names" sLNames f fd) (GD : FnOk P w K mg base CX0 1 f1 fd1 ["_law_pot_here", "_law_many"] spDigit) (gD : mg "_law_digit" = some (.ref f1)) (kD : PySem.W.keepIn K (.ref f1) = true) (bD : Binds K fd1 ["_law_pot_here", "_law_many"] []) (gRange : mg "range" = none) : FnOk P w K mg base CX0 2 f fd ["_law_pot_here", "_law_many", "_law_taken"] spNames := by
  refine F.ok scLNames (fun vs H Q E h => ?_) (fun cdv A ou s H vs Q E hr h => ?_)
  · obtain ⟨p, l, m, ts, rfl, _⟩ := h
    rfl
  · obtain ⟨p, l, m, ts, rfl, hp, nlp, hl, few, tok, kk⟩ := h
    have nd := scLNames.nd
    have hu := hr.units
    have hr1 : Room 1 _ := hr
    refine ⟨_, PSs.nox (pss_cons (ps_set (i := 3) nd rfl (Or.inr rfl) pe_str)
      (pss_cons (ps_set (i := 4) nd rfl (Or.inr rfl) (pe_lst pa_nil))
      (pss_cons (ps_for PassesOwn.never rfl (pi_range1 rfl gRange (pa_cons (pv 1) pa_nil)) (pg_name (i := 5) nd rfl (Or.inl rfl))
      (pss_cons (ps_set (i := 6) nd rfl (Or.inl rfl) (pe_join pe_str (pe_lc (own := [("_law_turn", 7)]) (g := (gName 7)) (tt := tYes) rfl nd (pi_range1 rfl gRange (pa_cons (pe_ix ix_list (pe_lst (pa_cons pe_int (pa_cons pe_int (pa_cons pe_int (pa_cons pe_int pa_nil))))) (pe_call GD hr1 rfl gD kD bD .nil pass0 (pa_cons (pv 0) (pa_cons pe_int pa_nil))) (fun _ _ => rfl)) pa_nil)) (blkOk_by (N := nLNames) (sc := defScope sLNames) (by decide +kernel))
        (fun _ _ _ _ _ => (pg_name (i := 7) nd rfl (Or.inl rfl))) (fun _ _ _ _ _ => pts_nil) (fun _ _ _ _ _ => (pe_ix ix_str (pv 3) (pe_call GD hr1 rfl gD kD bD .nil pass0 (pa_cons (pv 0) (pa_cons pe_int pa_nil))) (fun _ _ => rfl))))))
      (C8.pss_cut (ps_if (PW.pt (pw_and (pt_cmpR (op_neD hu) (pv 4) (pe_lst pa_nil) (nomark _)) (pw_and1 (pt_cmpR op_eq (pe_call GD hr1 rfl gD kD bD .nil pass0 (pa_cons (pv 0) (pa_cons pe_int pa_nil))) pe_int (nomark _))))) (pss_one (ps_set (i := 6) nd rfl (Or.inl rfl) (pe_slice sl_str (pe_op op_add_str (pe_ix ix_list (pv 4) (pe_un un_neg pe_int) (fun _ _ => rfl)) (pv 6)) po_none (po_some pe_int)))) pss_nil)
      (C8.pss_cut (ps_if (pt_cmpR op_in_seq (pv 6) (pe_op op_cat (pv 4) (pv 2)) rfl) (pss_one (ps_set (i := 6) nd rfl (Or.inl rfl) (pe_ix ix_list (pe_lc (own := [("_law_letter", 8)]) (g := (gName 8)) (tt := _) rfl nd (pi_str (pv 3)) (blkOk_by (N := nLNames) (sc := defScope sLNames) (by decide +kernel))
        (fun _ _ _ _ _ => (pg_name (i := 8) nd rfl (Or.inl rfl))) (fun _ _ _ _ _ => (pts_one (pt_cmpR (op_notIn_seqK (K := K) rfl) (pv 8) (pe_op op_cat (pv 4) (pv 2)) rfl))) (fun _ _ _ _ _ => (pv 8))) pe_int (fun _ _ => rfl)))) pss_nil)
      (pss_one (ps_expr (pe_bm PySem.F.plainAttrs_list PySem.F.slot_list_append PySem.F.type_list_append mt_append (pv 4) (pa_cons (pv 6) pa_nil))))))))
      (pss_one (ps_ret (pv 4)))))), ?_⟩
    refine ⟨by decide, fun N hN => ?_⟩
    have sN := Same.new (o := .lst []) (Same.refl H) hN
    have gN0 : upd H N (.lst []) N = some (.lst []) := upd_same
    have nNp := hp.ne hN
    generalize upd H N (.lst []) = H0 at sN gN0
    refine ⟨_, rfl, _, rfl, by omega, by omega, ?_⟩
    rw [Int.toNat_natCast]
    refine for_range (fun i σ G => ∃ (w5 w6 : Option V) (xs : List Str), σ = [some (.ref p), some (.int (m : Int)), some (.ref l), some (.str letters), some (.ref N), w5, w6, none, none] ∧ G N = some (.lst (xs.map V.str)) ∧ xs.length = i ∧ xs.Nodup ∧ (∀ x ∈ xs, NmOk x ∧ x ∉ ts) ∧ Kept p H G ∧ PotAt G p) ⟨_, _, [], rfl, gN0, rfl, List.nodup_nil, fun _ h => (List.not_mem_nil h).elim, Kept.same sN, hp.keep sN⟩ ?_ ?_
    · rintro i σ G il ⟨w5, w6, xs, rfl, hG, xl, xnd, xok, kG, hpG⟩
      have hlG := kG _ _ nlp hl
      -- a name is drawn
      refine ⟨⟨_, rfl⟩, (by show 4 ≤ sizeLine; decide), fun q hq => ?_⟩
      have sq := Same.new (o := .lst [V.int 1, V.int 2, V.int 3, V.int 8]) (Same.refl G) hq
      have nqp := hpG.ne hq
      refine ⟨_, rfl, p, _, rfl, hpG.keep sq, by decide, by decide, fun d H1 d0 d1 k1 hp1 => ?_⟩
      obtain ⟨m1, em, m11, m18⟩ := four_at d0 d1
      refine ⟨q, _, _, _, rfl, rfl, SqL.of (k1 _ _ nqp upd_same), em, ?_⟩
      have t1 : Kept p G H1 := (Kept.same sq).trans k1
      refine ⟨_, rfl, by omega, by omega, fun D hD => ?_⟩
      rw [Int.toNat_natCast]
      have nDp := hp1.ne hD
      have nH := t1.free hp1 hD
      refine lc_range (fun i H' => ∃ cs : List Nat, cs.length = i ∧ (∀ c ∈ cs, c ∈ letters.cps.toList) ∧ H' D = some (.lst ((cs.map sign).map V.str)) ∧ Kept p G H' ∧ PotAt H' p) ⟨[], rfl, fun _ h => (List.not_mem_nil h).elim, upd_same, t1.past nH, hp1.upd nDp⟩ (fun i H' hi e => ?_) (fun H2 e => ?_)
      · obtain ⟨cs, el, hc, hd, k2, hp2⟩ := e
        refine ⟨rfl, ?_⟩
        refine yes_ite ?_
        refine ⟨_, rfl, _, rfl, p, _, rfl, hp2, by decide, by decide, fun e H3 e0 e1 k3 hp3 => ?_⟩
        have ll := letters_len
        have el' : e.toNat < letters.cps.toList.length := by omega
        refine ⟨_, _, letters.cps.toList[e.toNat], rfl, rfl, (by show letters.length ≤ sizeLine; decide +kernel), ?_, ?_⟩
        · have := atI_nat (xs := letters.cps.toList) (j := e.toNat) (List.getElem?_eq_getElem el')
          rw [Int.toNat_of_nonneg e0] at this
          exact this
        have hd3 := k3 _ _ nDp hd
        refine ⟨_, hd3, ?_, cs ++ [letters.cps.toList[e.toNat]], ?_, fun c h => ?_, ?_, (k2.trans k3).past nH, hp3.upd nDp⟩
        · rw [List.length_map, List.length_map, el]
          exact Nat.lt_of_lt_of_le (show _ < 100 by omega) (by decide)
        · rw [List.length_append, el]
          rfl
        · rcases List.mem_append.mp h with h | h
          · exact hc c h
          · rw [List.mem_singleton.mp h]
            exact List.getElem_mem el'
        · rw [List.map_append, List.map_append]
          exact upd_same
      obtain ⟨cs, el, hc, hd, k2, hp2⟩ := e
      refine ⟨"", D, cs.map sign, rfl, rfl, .inl (SqL.of hd), ?_, ?_⟩
      · rw [sum_one, List.length_map]
        show cs.length + cs.length * 0 ≤ _
        omega
      have ok1 : NmOk (Txt.join "" (cs.map sign)) := nmOk_of (by rw [join_signs]; omega) (by rw [join_signs]; omega) (by rw [join_signs]; exact hc)
      generalize Txt.join "" (cs.map sign) = tag at ok1
      have hN2 := k2 _ _ nNp hG
      have nok : ∀ t ∈ xs, NmOk t := fun t ht => (xok t ht).1
      refine ⟨fun σ' H' => ∃ tg : Str, σ' = [some (.ref p), some (.int (m : Int)), some (.ref l), some (.str letters), some (.ref N), some (.int (0 + (i : Int))), some (.str tg), none, none] ∧ NmOk tg ∧ Kept p G H' ∧ PotAt H' p, ?_, ?_⟩
      · refine ⟨_, rfl, (by show 0 ≤ sizeLine; decide), fun l0 h0 => ?_⟩
        have s0 := Same.new (o := .lst []) (Same.refl H2) h0
        have n0 := k2.free hp2 h0
        refine ⟨strsD xs, strsD [], .lst (SqL.of (s0 _ _ hN2)) (dp_strs xs), .lst (SqL.of upd_same) (dp_strs []), shaped_strs nok, shaped_strs (fun _ h => (List.not_mem_nil h).elim), _, rfl, ?_⟩
        rw [eqv_strs_nil]
        rcases List.eq_nil_or_concat xs with rfl | ⟨c1, here, rfl⟩
        · refine iteF_ rfl (iteF_ rfl ?_)
          exact ⟨tag, rfl, ok1, k2.past n0, hp2.upd (hp2.ne h0)⟩
        · rw [List.concat_eq_append] at *
          refine iteT_ (by rw [decide_eq_false (by simp)]; rfl) ?_
          refine ⟨_, rfl, p, _, rfl, hp2.upd (hp2.ne h0), by decide, by decide, fun e H3 e0 e1 k3 hp3 => ?_⟩
          refine ⟨rfl, _, rfl, ?_⟩
          have k4 : Kept p G H3 := (k2.past n0).trans k3
          refine ite2 (fun _ => ?_) (fun _ => ?_)
          · have hl3 := k4 _ _ nNp hG
            rw [List.map_append] at hl3
            have okh : NmOk here := nok here (List.mem_append_right _ List.mem_cons_self)
            have l1 := okh.2.1
            have l2 := ok1.2.1
            refine ⟨_, rfl, _, rfl, N, _, _, _, rfl, rfl, SqL.of hl3, atI_last _ _, _, rfl, here, tag, rfl, rfl, ?_, ?_⟩
            · exact Nat.le_trans (show _ ≤ 16 by omega) (by decide)
            refine ⟨_, rfl, _, rfl, ?_, _, rfl, nmOk_cut okh ok1, k4, hp3⟩
            rw [show (here ++ tag).length = here.length + tag.length from by rw [len_tl, show (here ++ tag).cps.toList = here.cps.toList ++ tag.cps.toList from TL.tl_append here tag, List.length_append, ← len_tl, ← len_tl]]
            exact Nat.le_trans (show _ ≤ 16 by omega) (by decide)
          · exact ⟨tag, rfl, ok1, k4, hp3⟩
      · rintro σ' H3 ⟨tg, rfl, okg, k3, hp3⟩
        have hN3 := k3 _ _ nNp hG
        have hl3 := k3 _ _ nlp hlG
        have all : ∀ x, x ∈ xs ++ ts → NmOk x := fun x hx => by
          rcases List.mem_append.mp hx with h | h
          · exact nok x h
          · exact tok x h
        have alen : (xs ++ ts).length ≤ 25 := by
          rw [List.length_append]
          omega
        have cat : ∀ (e : Addr) (H' : Hp), (H' e = some (.lst (xs.map V.str ++ ts.map V.str))) → H' e = some (.lst ((xs ++ ts).map V.str)) := fun e H' h => by
          rw [List.map_append]
          exact h
        have clen : (xs.map V.str).length + (ts.map V.str).length ≤ sizeLine := by
          rw [List.length_map, List.length_map]
          exact Nat.le_trans (show _ ≤ 100 by omega) (by decide)
        refine ⟨fun σ' H' => ∃ tg : Str, σ' = [some (.ref p), some (.int (m : Int)), some (.ref l), some (.str letters), some (.ref N), some (.int (0 + (i : Int))), some (.str tg), none, none] ∧ NmOk tg ∧ tg ∉ xs ++ ts ∧ Kept p G H' ∧ PotAt H' p, ?_, ?_⟩
        · refine ⟨_, rfl, _, rfl, _, rfl, N, l, _, _, rfl, rfl, hN3, hl3, clen, fun lc hlc => ?_⟩
          have s4 := Same.new (o := .lst (xs.map V.str ++ ts.map V.str)) (Same.refl H3) hlc
          have n4 := k3.free hp3 hlc
          have hp4 := hp3.upd (o := .lst (xs.map V.str ++ ts.map V.str)) (hp3.ne hlc)
          have k4 : Kept p G (upd H3 lc (.lst (xs.map V.str ++ ts.map V.str))) := k3.past n4
          have g4 := cat lc _ (upd_same (H := H3) (a := lc) (o := .lst (xs.map V.str ++ ts.map V.str)))
          generalize upd H3 lc (.lst (xs.map V.str ++ ts.map V.str)) = H4 at s4 hp4 k4 g4
          refine ⟨lc, _, rfl, .inl (SqL.of g4), rfl, List.all_eq_true.mpr (strL_flat _), _, rfl, ?_⟩
          rw [in_strL]
          by_cases z : tg ∈ xs ++ ts
          · rw [decide_eq_true z]
            refine iteT_ rfl ?_
            refine ⟨_, rfl, _, rfl, fun D2 hD2 => ?_⟩
            have nD2 := hp4.ne hD2
            have nH2 := k4.free hp4 hD2
            refine lc_it (walk_str (z := letters)) (fun i H' => ∃ cs : List Nat, (∀ c ∈ cs, c ∈ letters.cps.toList ∧ sign c ∉ xs ++ ts) ∧ cs.length ≤ i ∧ ((∃ c ∈ letters.cps.toList.take i, sign c ∉ xs ++ ts) → cs ≠ []) ∧ H' D2 = some (.lst ((cs.map sign).map V.str)) ∧ Kept p G H' ∧ PotAt H' p) ⟨[], fun _ h => (List.not_mem_nil h).elim, Nat.le_refl _, (fun ⟨c, hc, _⟩ => by rw [List.take_zero] at hc; cases hc), upd_same, k4.past nH2, hp4.upd nD2⟩ (fun _ _ _ _ => trivial) (fun i x H' H'' hi e y => ?_) (fun H5 e => ?_)
            · obtain ⟨cs, hc, cl, ce, hd, k5, hp5⟩ := e
              obtain ⟨rfl, c, ec, rfl⟩ := y
              have ec' : letters.cps.toList[i]? = some c := by
                rw [Array.getElem?_toList]
                exact ec
              have hN5 := k5 _ _ nNp hG
              have hl5 := k5 _ _ nlp hlG
              refine ⟨rfl, ?_⟩
              refine ⟨_, rfl, _, rfl, _, rfl, N, l, _, _, rfl, rfl, hN5, hl5, clen, fun le hle => ?_⟩
              have s6 := Same.new (o := .lst (xs.map V.str ++ ts.map V.str)) (Same.refl H'') hle
              have n6 := k5.free hp5 hle
              have hp6 := hp5.upd (o := .lst (xs.map V.str ++ ts.map V.str)) (hp5.ne hle)
              have k6 : Kept p G (upd H'' le (.lst (xs.map V.str ++ ts.map V.str))) := k5.past n6
              have g6 := cat le _ (upd_same (H := H'') (a := le) (o := .lst (xs.map V.str ++ ts.map V.str)))
              generalize upd H'' le (.lst (xs.map V.str ++ ts.map V.str)) = H6 at s6 hp6 k6 g6
              have hd6 := s6 _ _ hd
              refine ⟨le, _, rfl, .inl (SqL.of g6), rfl, List.all_eq_true.mpr (strL_flat _), _, rfl, ?_⟩
              rw [show V.str ⟨#[c]⟩ = V.str (sign c) from rfl, in_strL]
              by_cases z2 : sign c ∈ xs ++ ts
              · rw [decide_eq_true z2]
                refine iteF_ rfl ⟨cs, hc, by omega, fun ⟨c', h1, h2⟩ => ce ⟨c', ?_, h2⟩, hd6, k6, hp6⟩
                rw [List.take_succ, ec'] at h1
                rcases List.mem_append.mp h1 with h | h
                · exact h
                · rcases List.mem_cons.mp h with rfl | h
                  · exact absurd z2 h2
                  · cases h
              · rw [decide_eq_false z2]
                refine iteT_ rfl ?_
                refine ⟨_, rfl, _, hd6, ?_, cs ++ [c], fun c' h => ?_, ?_, fun _ => by simp, ?_, k6.past nH2, hp6.upd nD2⟩
                · rw [List.length_map, List.length_map]
                  have : i < 26 := hi
                  exact Nat.lt_of_lt_of_le (show _ < 100 by omega) (by decide)
                · rcases List.mem_append.mp h with h | h
                  · exact hc c' h
                  · rcases List.mem_cons.mp h with rfl | h
                    · exact ⟨List.mem_of_getElem? ec', z2⟩
                    · cases h
                · rw [List.length_append]
                  show _ + 1 ≤ _
                  omega
                · rw [List.map_append, List.map_append]
                  exact upd_same
            · obtain ⟨cs, hc, cl, ce, hd, k5, hp5⟩ := e
              have ne : cs ≠ [] := ce (by
                obtain ⟨c, h1, h2⟩ := free_letter alen
                refine ⟨c, ?_, h2⟩
                rw [List.take_of_length_le (by show letters.cps.toList.length ≤ letters.cps.size; simp)]
                exact h1)
              obtain ⟨c, r, rfl⟩ := List.exists_cons_of_ne_nil ne
              obtain ⟨c1, c2⟩ := hc c List.mem_cons_self
              refine ⟨D2, _, _, _, rfl, rfl, SqL.of hd, atI_nat (j := 0) rfl, sign c, rfl, ?_, c2, k5, hp5⟩
              exact nmOk_of (by show 1 ≤ 1; decide) (by show 1 ≤ 8; decide) fun d hd => by
                rcases List.mem_cons.mp (show d ∈ [c] from hd) with rfl | h
                · exact c1
                · cases h
          · rw [decide_eq_false z]
            refine iteF_ rfl ?_
            exact ⟨tg, rfl, okg, z, k4, hp4⟩
        · rintro σ' H4 ⟨tg, rfl, okg, fresh, k4, hp4⟩
          have hN4 := k4 _ _ nNp hG
          refine ⟨_, rfl, .inl ⟨rfl, _, SqL.of hN4⟩, _, rfl, N, _, _, rfl, rfl, hN4, ?_, _, _, xs ++ [tg], rfl, ?_, ?_, ?_, fun x hx => ?_, (kG.trans k4).past hN, hp4.upd nNp⟩
          · rw [List.length_map]
            exact Nat.lt_of_lt_of_le (show xs.length < 100 by omega) (by decide)
          · rw [List.map_append]
            exact upd_same
          · rw [List.length_append, xl]
            rfl
          · refine List.nodup_append.mpr ⟨xnd, List.nodup_cons.mpr ⟨List.not_mem_nil, List.nodup_nil⟩, fun a ha b hb e => ?_⟩
            rw [List.mem_singleton.mp hb] at e
            exact fresh (List.mem_append_left _ (e ▸ ha))
          · rcases List.mem_append.mp hx with h | h
            · exact xok x h
            · rw [List.mem_singleton.mp h]
              exact ⟨okg, fun z => fresh (List.mem_append_right _ z)⟩
    · rintro σ G ⟨w5, w6, xs, rfl, hG, xl, xnd, xok, kG, hpG⟩
      exact ⟨_, rfl, kk N xs G xl xnd xok hN kG hpG hG⟩
end
end Sw
namespace Sw
open PySem PySem.Spec PyProof.Rows L2
/-! ### shapes -/
abbrev kS (x : Str) : Key := Sum.inr x
structure Shp where
  ct : Nat
  gv : Nat
  tk : List Nat
  fd : List Nat
  mo : Nat
  lb : Option (Nat × Nat)
/-- where a shape stands: its dict, its takes, its feeds -/
structure Ad where
  d : Addr
  t : Addr
  f : Addr
theorem ne_count_gives : ((Str.ofString "count") = Str.ofString "gives") = False := eq_false (by decide +kernel)
theorem ne_count_takes : ((Str.ofString "count") = Str.ofString "takes") = False := eq_false (by decide +kernel)
theorem ne_count_feeds : ((Str.ofString "count") = Str.ofString "feeds") = False := eq_false (by decide +kernel)
theorem ne_count_more : ((Str.ofString "count") = Str.ofString "more") = False := eq_false (by decide +kernel)
theorem ne_count_late : ((Str.ofString "count") = Str.ofString "late") = False := eq_false (by decide +kernel)
theorem ne_count_begin : ((Str.ofString "count") = Str.ofString "begin") = False := eq_false (by decide +kernel)
theorem ne_gives_count : ((Str.ofString "gives") = Str.ofString "count") = False := eq_false (by decide +kernel)
theorem ne_gives_takes : ((Str.ofString "gives") = Str.ofString "takes") = False := eq_false (by decide +kernel)
theorem ne_gives_feeds : ((Str.ofString "gives") = Str.ofString "feeds") = False := eq_false (by decide +kernel)
theorem ne_gives_more : ((Str.ofString "gives") = Str.ofString "more") = False := eq_false (by decide +kernel)
theorem ne_gives_late : ((Str.ofString "gives") = Str.ofString "late") = False := eq_false (by decide +kernel)
theorem ne_gives_begin : ((Str.ofString "gives") = Str.ofString "begin") = False := eq_false (by decide +kernel)
theorem ne_takes_count : ((Str.ofString "takes") = Str.ofString "count") = False := eq_false (by decide +kernel)
theorem ne_takes_gives : ((Str.ofString "takes") = Str.ofString "gives") = False := eq_false (by decide +kernel)
theorem ne_takes_feeds : ((Str.ofString "takes") = Str.ofString "feeds") = False := eq_false (by decide +kernel)
theorem ne_takes_more : ((Str.ofString "takes") = Str.ofString "more") = False := eq_false (by decide +kernel)
theorem ne_takes_late : ((Str.ofString "takes") = Str.ofString "late") = False := eq_false (by decide +kernel)
theorem ne_takes_begin : ((Str.ofString "takes") = Str.ofString "begin") = False := eq_false (by decide +kernel)
theorem ne_feeds_count : ((Str.ofString "feeds") = Str.ofString "count") = False := eq_false (by decide +kernel)
theorem ne_feeds_gives : ((Str.ofString "feeds") = Str.ofString "gives") = False := eq_false (by decide +kernel)
theorem ne_feeds_takes : ((Str.ofString "feeds") = Str.ofString "takes") = False := eq_false (by decide +kernel)
theorem ne_feeds_more : ((Str.ofString "feeds") = Str.ofString "more") = False := eq_false (by decide +kernel)
theorem ne_feeds_late : ((Str.ofString "feeds") = Str.ofString "late") = False := eq_false (by decide +kernel)
theorem ne_feeds_begin : ((Str.ofString "feeds") = Str.ofString "begin") = False := eq_false (by decide +kernel)
theorem ne_more_count : ((Str.ofString "more") = Str.ofString "count") = False := eq_false (by decide +kernel)
theorem ne_more_gives : ((Str.ofString "more") = Str.ofString "gives") = False := eq_false (by decide +kernel)
theorem ne_more_takes : ((Str.ofString "more") = Str.ofString "takes") = False := eq_false (by decide +kernel)
theorem ne_more_feeds : ((Str.ofString "more") = Str.ofString "feeds") = False := eq_false (by decide +kernel)
theorem ne_more_late : ((Str.ofString "more") = Str.ofString "late") = False := eq_false (by decide +kernel)
theorem ne_more_begin : ((Str.ofString "more") = Str.ofString "begin") = False := eq_false (by decide +kernel)
theorem ne_late_count : ((Str.ofString "late") = Str.ofString "count") = False := eq_false (by decide +kernel)
theorem ne_late_gives : ((Str.ofString "late") = Str.ofString "gives") = False := eq_false (by decide +kernel)
theorem ne_late_takes : ((Str.ofString "late") = Str.ofString "takes") = False := eq_false (by decide +kernel)
theorem ne_late_feeds : ((Str.ofString "late") = Str.ofString "feeds") = False := eq_false (by decide +kernel)
theorem ne_late_more : ((Str.ofString "late") = Str.ofString "more") = False := eq_false (by decide +kernel)
theorem ne_late_begin : ((Str.ofString "late") = Str.ofString "begin") = False := eq_false (by decide +kernel)
theorem ne_begin_count : ((Str.ofString "begin") = Str.ofString "count") = False := eq_false (by decide +kernel)
theorem ne_begin_gives : ((Str.ofString "begin") = Str.ofString "gives") = False := eq_false (by decide +kernel)
theorem ne_begin_takes : ((Str.ofString "begin") = Str.ofString "takes") = False := eq_false (by decide +kernel)
theorem ne_begin_feeds : ((Str.ofString "begin") = Str.ofString "feeds") = False := eq_false (by decide +kernel)
theorem ne_begin_more : ((Str.ofString "begin") = Str.ofString "more") = False := eq_false (by decide +kernel)
theorem ne_begin_late : ((Str.ofString "begin") = Str.ofString "late") = False := eq_false (by decide +kernel)
def lbKV : Option (Nat × Nat) → List (Key × V)
  | none => []
  | some (l, b) => [(kS "late", natV l), (kS "begin", natV b)]
def shKV (s : Shp) (a : Ad) : List (Key × V) := [(kS "count", natV s.ct), (kS "gives", natV s.gv), (kS "takes", V.ref a.t), (kS "feeds", V.ref a.f), (kS "more", natV s.mo)] ++ lbKV s.lb
def ShAt (H : Hp) (a : Ad) (s : Shp) : Prop := H a.d = some (.dK (shKV s a)) ∧ H a.t = some (.lst (s.tk.map natV)) ∧ H a.f = some (.lst (s.fd.map natV))
def flat (as : List Ad) : List Addr := as.flatMap fun a => [a.d, a.t, a.f]
def Shs (H : Hp) (l : Addr) (as : List Ad) (ss : List Shp) : Prop := H l = some (.lst (as.map fun a => V.ref a.d)) ∧ Al (ShAt H) as ss ∧ (l :: flat as).Nodup
section
variable {s : Shp} {a : Ad}
theorem sh_len : (shKV s a).length ≤ 7 := by
  unfold shKV lbKV
  cases s.lb <;> simp
theorem sh_count : valV (shKV s a) (kS "count") = some (natV s.ct) := by
  simp [valV, shKV, ne_count_gives, ne_count_takes, ne_count_feeds, ne_count_more, ne_count_late, ne_count_begin, ne_gives_count, ne_gives_takes, ne_gives_feeds, ne_gives_more, ne_gives_late, ne_gives_begin, ne_takes_count, ne_takes_gives, ne_takes_feeds, ne_takes_more, ne_takes_late, ne_takes_begin, ne_feeds_count, ne_feeds_gives, ne_feeds_takes, ne_feeds_more, ne_feeds_late, ne_feeds_begin, ne_more_count, ne_more_gives, ne_more_takes, ne_more_feeds, ne_more_late, ne_more_begin, ne_late_count, ne_late_gives, ne_late_takes, ne_late_feeds, ne_late_more, ne_late_begin, ne_begin_count, ne_begin_gives, ne_begin_takes, ne_begin_feeds, ne_begin_more, ne_begin_late]
theorem sh_gives : valV (shKV s a) (kS "gives") = some (natV s.gv) := by
  simp [valV, shKV, ne_count_gives, ne_count_takes, ne_count_feeds, ne_count_more, ne_count_late, ne_count_begin, ne_gives_count, ne_gives_takes, ne_gives_feeds, ne_gives_more, ne_gives_late, ne_gives_begin, ne_takes_count, ne_takes_gives, ne_takes_feeds, ne_takes_more, ne_takes_late, ne_takes_begin, ne_feeds_count, ne_feeds_gives, ne_feeds_takes, ne_feeds_more, ne_feeds_late, ne_feeds_begin, ne_more_count, ne_more_gives, ne_more_takes, ne_more_feeds, ne_more_late, ne_more_begin, ne_late_count, ne_late_gives, ne_late_takes, ne_late_feeds, ne_late_more, ne_late_begin, ne_begin_count, ne_begin_gives, ne_begin_takes, ne_begin_feeds, ne_begin_more, ne_begin_late]
theorem sh_takes : valV (shKV s a) (kS "takes") = some (.ref a.t) := by
  simp [valV, shKV, ne_count_gives, ne_count_takes, ne_count_feeds, ne_count_more, ne_count_late, ne_count_begin, ne_gives_count, ne_gives_takes, ne_gives_feeds, ne_gives_more, ne_gives_late, ne_gives_begin, ne_takes_count, ne_takes_gives, ne_takes_feeds, ne_takes_more, ne_takes_late, ne_takes_begin, ne_feeds_count, ne_feeds_gives, ne_feeds_takes, ne_feeds_more, ne_feeds_late, ne_feeds_begin, ne_more_count, ne_more_gives, ne_more_takes, ne_more_feeds, ne_more_late, ne_more_begin, ne_late_count, ne_late_gives, ne_late_takes, ne_late_feeds, ne_late_more, ne_late_begin, ne_begin_count, ne_begin_gives, ne_begin_takes, ne_begin_feeds, ne_begin_more, ne_begin_late]
theorem sh_feeds : valV (shKV s a) (kS "feeds") = some (.ref a.f) := by
  simp [valV, shKV, ne_count_gives, ne_count_takes, ne_count_feeds, ne_count_more, ne_count_late, ne_count_begin, ne_gives_count, ne_gives_takes, ne_gives_feeds, ne_gives_more, ne_gives_late, ne_gives_begin, ne_takes_count, ne_takes_gives, ne_takes_feeds, ne_takes_more, ne_takes_late, ne_takes_begin, ne_feeds_count, ne_feeds_gives, ne_feeds_takes, ne_feeds_more, ne_feeds_late, ne_feeds_begin, ne_more_count, ne_more_gives, ne_more_takes, ne_more_feeds, ne_more_late, ne_more_begin, ne_late_count, ne_late_gives, ne_late_takes, ne_late_feeds, ne_late_more, ne_late_begin, ne_begin_count, ne_begin_gives, ne_begin_takes, ne_begin_feeds, ne_begin_more, ne_begin_late]
theorem sh_more : valV (shKV s a) (kS "more") = some (natV s.mo) := by
  simp [valV, shKV, ne_count_gives, ne_count_takes, ne_count_feeds, ne_count_more, ne_count_late, ne_count_begin, ne_gives_count, ne_gives_takes, ne_gives_feeds, ne_gives_more, ne_gives_late, ne_gives_begin, ne_takes_count, ne_takes_gives, ne_takes_feeds, ne_takes_more, ne_takes_late, ne_takes_begin, ne_feeds_count, ne_feeds_gives, ne_feeds_takes, ne_feeds_more, ne_feeds_late, ne_feeds_begin, ne_more_count, ne_more_gives, ne_more_takes, ne_more_feeds, ne_more_late, ne_more_begin, ne_late_count, ne_late_gives, ne_late_takes, ne_late_feeds, ne_late_more, ne_late_begin, ne_begin_count, ne_begin_gives, ne_begin_takes, ne_begin_feeds, ne_begin_more, ne_begin_late]
theorem put_more {m : Nat} : putK (shKV s a) (kS "more") (natV m) = shKV { s with mo := m } a := by
  obtain ⟨c1, c2, c3, c4, c5, lb⟩ := s
  cases lb <;> simp [putK, shKV, lbKV, ne_count_gives, ne_count_takes, ne_count_feeds, ne_count_more, ne_count_late, ne_count_begin, ne_gives_count, ne_gives_takes, ne_gives_feeds, ne_gives_more, ne_gives_late, ne_gives_begin, ne_takes_count, ne_takes_gives, ne_takes_feeds, ne_takes_more, ne_takes_late, ne_takes_begin, ne_feeds_count, ne_feeds_gives, ne_feeds_takes, ne_feeds_more, ne_feeds_late, ne_feeds_begin, ne_more_count, ne_more_gives, ne_more_takes, ne_more_feeds, ne_more_late, ne_more_begin, ne_late_count, ne_late_gives, ne_late_takes, ne_late_feeds, ne_late_more, ne_late_begin, ne_begin_count, ne_begin_gives, ne_begin_takes, ne_begin_feeds, ne_begin_more, ne_begin_late]
theorem put_gives {m : Nat} : putK (shKV s a) (kS "gives") (natV m) = shKV { s with gv := m } a := by
  obtain ⟨c1, c2, c3, c4, c5, lb⟩ := s
  cases lb <;> simp [putK, shKV, lbKV, ne_count_gives, ne_count_takes, ne_count_feeds, ne_count_more, ne_count_late, ne_count_begin, ne_gives_count, ne_gives_takes, ne_gives_feeds, ne_gives_more, ne_gives_late, ne_gives_begin, ne_takes_count, ne_takes_gives, ne_takes_feeds, ne_takes_more, ne_takes_late, ne_takes_begin, ne_feeds_count, ne_feeds_gives, ne_feeds_takes, ne_feeds_more, ne_feeds_late, ne_feeds_begin, ne_more_count, ne_more_gives, ne_more_takes, ne_more_feeds, ne_more_late, ne_more_begin, ne_late_count, ne_late_gives, ne_late_takes, ne_late_feeds, ne_late_more, ne_late_begin, ne_begin_count, ne_begin_gives, ne_begin_takes, ne_begin_feeds, ne_begin_more, ne_begin_late]
theorem merge_sh {ct gv mo : Nat} {tk fd : List Nat} : mergeK [] (shKV ⟨ct, gv, tk, fd, mo, none⟩ a) = shKV ⟨ct, gv, tk, fd, mo, none⟩ a := by
  simp [mergeK, putK, shKV, lbKV, ne_count_gives, ne_count_takes, ne_count_feeds, ne_count_more, ne_count_late, ne_count_begin, ne_gives_count, ne_gives_takes, ne_gives_feeds, ne_gives_more, ne_gives_late, ne_gives_begin, ne_takes_count, ne_takes_gives, ne_takes_feeds, ne_takes_more, ne_takes_late, ne_takes_begin, ne_feeds_count, ne_feeds_gives, ne_feeds_takes, ne_feeds_more, ne_feeds_late, ne_feeds_begin, ne_more_count, ne_more_gives, ne_more_takes, ne_more_feeds, ne_more_late, ne_more_begin, ne_late_count, ne_late_gives, ne_late_takes, ne_late_feeds, ne_late_more, ne_late_begin, ne_begin_count, ne_begin_gives, ne_begin_takes, ne_begin_feeds, ne_begin_more, ne_begin_late]
def shKV4 (ct gv : Nat) (a : Ad) : List (Key × V) := [(kS "count", natV ct), (kS "gives", natV gv), (kS "takes", V.ref a.t), (kS "feeds", V.ref a.f)]
theorem merge_sh4 {ct gv mo : Nat} {tk fd : List Nat} : putK (mergeK [] (shKV4 ct gv a)) (kS "more") (natV mo) = shKV ⟨ct, gv, tk, fd, mo, none⟩ a := by
  simp [mergeK, putK, shKV4, shKV, lbKV, ne_count_gives, ne_count_takes, ne_count_feeds, ne_count_more, ne_count_late, ne_count_begin, ne_gives_count, ne_gives_takes, ne_gives_feeds, ne_gives_more, ne_gives_late, ne_gives_begin, ne_takes_count, ne_takes_gives, ne_takes_feeds, ne_takes_more, ne_takes_late, ne_takes_begin, ne_feeds_count, ne_feeds_gives, ne_feeds_takes, ne_feeds_more, ne_feeds_late, ne_feeds_begin, ne_more_count, ne_more_gives, ne_more_takes, ne_more_feeds, ne_more_late, ne_more_begin, ne_late_count, ne_late_gives, ne_late_takes, ne_late_feeds, ne_late_more, ne_late_begin, ne_begin_count, ne_begin_gives, ne_begin_takes, ne_begin_feeds, ne_begin_more, ne_begin_late]
theorem merge_gm {g m : Nat} : mergeK (shKV s a) [(kS "gives", natV g), (kS "more", natV m)] = shKV { s with gv := g, mo := m } a := by
  obtain ⟨c1, c2, c3, c4, c5, lb⟩ := s
  cases lb <;> simp [mergeK, putK, shKV, lbKV, ne_count_gives, ne_count_takes, ne_count_feeds, ne_count_more, ne_count_late, ne_count_begin, ne_gives_count, ne_gives_takes, ne_gives_feeds, ne_gives_more, ne_gives_late, ne_gives_begin, ne_takes_count, ne_takes_gives, ne_takes_feeds, ne_takes_more, ne_takes_late, ne_takes_begin, ne_feeds_count, ne_feeds_gives, ne_feeds_takes, ne_feeds_more, ne_feeds_late, ne_feeds_begin, ne_more_count, ne_more_gives, ne_more_takes, ne_more_feeds, ne_more_late, ne_more_begin, ne_late_count, ne_late_gives, ne_late_takes, ne_late_feeds, ne_late_more, ne_late_begin, ne_begin_count, ne_begin_gives, ne_begin_takes, ne_begin_feeds, ne_begin_more, ne_begin_late]
theorem merge_2 {g m : Nat} : mergeK [] [(kS "gives", natV g), (kS "more", natV m)] = [(kS "gives", natV g), (kS "more", natV m)] := by
  simp [mergeK, putK, ne_count_gives, ne_count_takes, ne_count_feeds, ne_count_more, ne_count_late, ne_count_begin, ne_gives_count, ne_gives_takes, ne_gives_feeds, ne_gives_more, ne_gives_late, ne_gives_begin, ne_takes_count, ne_takes_gives, ne_takes_feeds, ne_takes_more, ne_takes_late, ne_takes_begin, ne_feeds_count, ne_feeds_gives, ne_feeds_takes, ne_feeds_more, ne_feeds_late, ne_feeds_begin, ne_more_count, ne_more_gives, ne_more_takes, ne_more_feeds, ne_more_late, ne_more_begin, ne_late_count, ne_late_gives, ne_late_takes, ne_late_feeds, ne_late_more, ne_late_begin, ne_begin_count, ne_begin_gives, ne_begin_takes, ne_begin_feeds, ne_begin_more, ne_begin_late]
theorem put_late {m b : Nat} (h : s.lb = none) : putK (putK (shKV s a) (kS "late") (natV m)) (kS "begin") (natV b) = shKV { s with lb := some (m, b) } a := by
  obtain ⟨c1, c2, c3, c4, c5, lb⟩ := s
  simp only at h
  subst h
  simp [putK, shKV, lbKV, ne_count_gives, ne_count_takes, ne_count_feeds, ne_count_more, ne_count_late, ne_count_begin, ne_gives_count, ne_gives_takes, ne_gives_feeds, ne_gives_more, ne_gives_late, ne_gives_begin, ne_takes_count, ne_takes_gives, ne_takes_feeds, ne_takes_more, ne_takes_late, ne_takes_begin, ne_feeds_count, ne_feeds_gives, ne_feeds_takes, ne_feeds_more, ne_feeds_late, ne_feeds_begin, ne_more_count, ne_more_gives, ne_more_takes, ne_more_feeds, ne_more_late, ne_more_begin, ne_late_count, ne_late_gives, ne_late_takes, ne_late_feeds, ne_late_more, ne_late_begin, ne_begin_count, ne_begin_gives, ne_begin_takes, ne_begin_feeds, ne_begin_more, ne_begin_late]
end
theorem Al.impM {α β : Type} {R R' : α → β → Prop} : ∀ {as : List α} {bs : List β}, (∀ a b, a ∈ as → R a b → R' a b) → Al R as bs → Al R' as bs
  | [], [], _, _ => trivial
  | a :: as, b :: bs, f, h => ⟨f a b List.mem_cons_self h.1, Al.impM (fun a' b' m => f a' b' (List.mem_cons_of_mem _ m)) h.2⟩
  | [], _ :: _, _, h => h.elim
  | _ :: _, [], _, h => h.elim
theorem mem_flat {as : List Ad} {a : Ad} (h : a ∈ as) : a.d ∈ flat as ∧ a.t ∈ flat as ∧ a.f ∈ flat as := by
  unfold flat
  refine ⟨List.mem_flatMap.mpr ⟨a, h, ?_⟩, List.mem_flatMap.mpr ⟨a, h, ?_⟩, List.mem_flatMap.mpr ⟨a, h, ?_⟩⟩ <;> simp
theorem ShAt.at {H H' : Hp} {a : Ad} {s : Shp} (h : ShAt H a s) (k : ∀ b, b = a.d ∨ b = a.t ∨ b = a.f → ∀ o, H b = some o → H' b = some o) : ShAt H' a s :=
  ⟨k _ (.inl rfl) _ h.1, k _ (.inr (.inl rfl)) _ h.2.1, k _ (.inr (.inr rfl)) _ h.2.2⟩
theorem ShAt.keep {H H' : Hp} {a : Ad} {s : Shp} (h : ShAt H a s) (k : Same H H') : ShAt H' a s := h.at fun b _ o e => k b o e
theorem Shs.at {H H' : Hp} {l : Addr} {as : List Ad} {ss : List Shp} (h : Shs H l as ss) (k : ∀ b, b ∈ l :: flat as → ∀ o, H b = some o → H' b = some o) : Shs H' l as ss := by
  refine ⟨k l List.mem_cons_self _ h.1, h.2.1.impM fun a s ha hs => hs.at fun b hb => ?_, h.2.2⟩
  obtain ⟨m1, m2, m3⟩ := mem_flat ha
  rcases hb with rfl | rfl | rfl
  · exact k _ (List.mem_cons_of_mem _ m1)
  · exact k _ (List.mem_cons_of_mem _ m2)
  · exact k _ (List.mem_cons_of_mem _ m3)
theorem Shs.keep {H H' : Hp} {l : Addr} {as : List Ad} {ss : List Shp} (h : Shs H l as ss) (k : Same H H') : Shs H' l as ss := h.at fun b _ o e => k b o e
theorem Shs.kept {H H' : Hp} {p l : Addr} {as : List Ad} {ss : List Shp} (h : Shs H l as ss) (k : Kept p H H') (n : p ∉ l :: flat as) : Shs H' l as ss := h.at fun b hb o e => k b o (fun z => n (z ▸ hb)) e
theorem dg_count {H : Hp} {a : Ad} {s : Shp} (h : ShAt H a s) : DGet H a.d (.str "count") (some (natV s.ct)) := by
  have := DGet.k (k := kS "count") h.1
  rw [sh_count] at this
  exact this
theorem dg_gives {H : Hp} {a : Ad} {s : Shp} (h : ShAt H a s) : DGet H a.d (.str "gives") (some (natV s.gv)) := by
  have := DGet.k (k := kS "gives") h.1
  rw [sh_gives] at this
  exact this
theorem dg_takes {H : Hp} {a : Ad} {s : Shp} (h : ShAt H a s) : DGet H a.d (.str "takes") (some (.ref a.t)) := by
  have := DGet.k (k := kS "takes") h.1
  rw [sh_takes] at this
  exact this
theorem dg_feeds {H : Hp} {a : Ad} {s : Shp} (h : ShAt H a s) : DGet H a.d (.str "feeds") (some (.ref a.f)) := by
  have := DGet.k (k := kS "feeds") h.1
  rw [sh_feeds] at this
  exact this
theorem dg_more {H : Hp} {a : Ad} {s : Shp} (h : ShAt H a s) : DGet H a.d (.str "more") (some (natV s.mo)) := by
  have := DGet.k (k := kS "more") h.1
  rw [sh_more] at this
  exact this
theorem four_more {d : Int} (h0 : 0 ≤ d) (h4 : d < 4) : ∃ m : Nat, atI [V.int 0, V.int 0, V.int 1, V.int 3] d = some (natV m) ∧ m ≤ 3 := by
  have : d = 0 ∨ d = 1 ∨ d = 2 ∨ d = 3 := by omega
  rcases this with rfl | rfl | rfl | rfl
  · exact ⟨0, rfl, by decide⟩
  · exact ⟨0, rfl, by decide⟩
  · exact ⟨1, rfl, by decide⟩
  · exact ⟨3, rfl, by decide⟩
theorem eqv_one (r : Nat) : PyData.eqv (.list [natD r]) (.list [.int 1]) = decide (r = 1) := by
  rw [PyData.eqv]
  have := tk_eqvA [r] [1]
  rw [show ([r].map natD) = [natD r] from rfl, show ([1].map natD) = [PyData.int 1] from rfl] at this
  rw [this]
  by_cases z : r = 1
  · rw [z]
    rfl
  · rw [decide_eq_false z, decide_eq_false fun q => z (List.cons.inj q).1]
/-- places that are new -/
def NewA (H : Hp) (a : Ad) : Prop := H a.d = none ∧ H a.t = none ∧ H a.f = none ∧ a.d ≠ a.t ∧ a.d ≠ a.f ∧ a.t ≠ a.f
def spInlet : Sp := fun vs H Q _ => ∃ p : Addr, vs = [.ref p] ∧ PotAt H p ∧ ∀ (a : Ad) (ct : Nat) (H' : Hp), NewA H a → Kept p H H' → PotAt H' p → 1 ≤ ct → ct ≤ 12 → ShAt H' a ⟨ct, 1, [], [], 0, none⟩ → Q (.ref a.d) H'
/-- a shape that is fed by an earlier one -/
def NewOk (ss : List Shp) (s : Shp) : Prop := ∃ (i : Nat) (c : Shp) (r : Nat), ss[i]? = some c ∧ 0 < c.gv ∧ s.fd = [i] ∧ s.tk = [r] ∧ 1 ≤ r ∧ r ≤ 8 ∧ r * s.ct = c.ct * c.gv ∧ 1 ≤ s.ct ∧ s.ct ≤ 12 ∧ ((1 ≤ s.gv ∧ s.gv ≤ 8 ∧ s.mo ≤ 3) ∨ (s.gv = 0 ∧ s.mo = 0 ∧ r = 1)) ∧ s.lb = none
def spShape : Sp := fun vs H Q _ => ∃ (p l : Addr) (as : List Ad) (ss : List Shp), vs = [.ref p, .ref l] ∧ PotAt H p ∧ Shs H l as ss ∧ p ∉ l :: flat as ∧ ss.length ≤ 30 ∧ (∀ s ∈ ss, 1 ≤ s.ct ∧ s.ct ≤ 12 ∧ s.gv ≤ 8) ∧ (∃ s ∈ ss, 0 < s.gv) ∧
  ∀ (a : Ad) (s : Shp) (H' : Hp), NewA H a → Kept p H H' → PotAt H' p → NewOk ss s → ShAt H' a s → Q (.ref a.d) H'
section
variable {P : Program} {w : World} {K : PySem.W.Frag} {mg : Str → Option Value} {base : Heap} {f f1 f2 f3 f4 f5 f6 f7 f8 f9 C CN CO CI CW dd : Addr} {cl : Srt → Addr} {fd fd1 fd2 fd3 fd4 fd5 fd6 fd7 fd8 fd9 : FuncData}
abbrev nLInlet : List Str := ["_law_pot_here"]
theorem scLInlet : FnScope nLInlet ["_law_pot_here"] (defScope sLInlet) := ⟨rfl, rfl, rfl, by decide +kernel, rfl, by decide +kernel, by decide +kernel⟩
theorem ok_inlet (F : FnP K "_law_inlet" sLInlet f fd) (GD : FnOk P w K mg base CX0 1 f1 fd1 ["_law_pot_here", "_law_many"] spDigit) (gD : mg "_law_digit" = some (.ref f1)) (kD : PySem.W.keepIn K (.ref f1) = true) (bD : Binds K fd1 ["_law_pot_here", "_law_many"] []) : FnOk P w K mg base CX0 2 f fd ["_law_pot_here"] spInlet := by
  refine F.ok scLInlet (fun vs H Q E h => ?_) (fun cdv A ou s H vs Q E hr h => ?_)
  · obtain ⟨p, rfl, _⟩ := h
    rfl
  · obtain ⟨p, rfl, hp, kk⟩ := h
    have nd := scLInlet.nd
    have hr1 : Room 1 _ := hr
    refine ⟨_, PSs.nox (pss_one (ps_ret (pe_disp (pps_cons pe_str (pe_op op_add pe_int (pe_call GD hr1 rfl gD kD bD .nil pass0 (pa_cons (pv 0) (pa_cons pe_int pa_nil)))) (pps_cons pe_str pe_int (pps_cons pe_str (pe_lst pa_nil) (pps_cons pe_str (pe_lst pa_nil) (pps_cons pe_str pe_int pps_nil))))) (by rfl) (by rfl) (fun z => by cases z) (by decide)))), ?_⟩
    refine fun d hd => ?_
    have s1 := Same.new (o := .dK []) (Same.refl H) hd
    have g1 : upd H d (.dK []) d = some (.dK []) := upd_same
    have ndp := hp.ne hd
    generalize upd H d (.dK []) = H0 at s1 g1
    refine ⟨_, rfl, p, _, rfl, hp.keep s1, by decide, by decide, fun e H1 e0 e1 k1 hp1 => ⟨_, _, rfl, rfl, ?_⟩⟩
    obtain ⟨n, rfl, n1⟩ := nat_of e0 e1
    have ec : V.int (1 + (n : Int)) = natV (n + 1) := by
      unfold natV
      congr 1
      omega
    have g2 := k1 _ _ ndp g1
    refine ⟨by decide, fun t ht => ⟨by decide, fun f hf => ?_⟩⟩
    have ntd : d ≠ t := ne_of_none g2 ht
    have nfd : d ≠ f := by
      refine ne_of_none (H := upd H1 t (.lst [])) (by rw [upd_ne ntd]; exact g2) hf
    have nft : t ≠ f := ne_of_none (H := upd H1 t (.lst [])) upd_same hf
    have hf1 : H1 f = none := by
      rw [upd_ne nft.symm] at hf
      exact hf
    have k2 : Kept p H H1 := (Kept.same s1).trans k1
    have tH := k2.free hp1 ht
    have fH := k2.free hp1 hf1
    refine ⟨by rw [upd_ne nfd, upd_ne ntd]; exact g2, shKV ⟨n + 1, 1, [], [], 0, none⟩ ⟨d, t, f⟩, (by
      show (V.str "count", V.int (1 + (n : Int))) :: _ = _
      rw [ec]
      rfl), Nat.le_trans sh_len (by decide), ?_⟩
    rw [merge_sh]
    refine kk ⟨d, t, f⟩ (n + 1) _ ⟨hd, tH, fH, ntd, nfd, nft⟩ (((k2.past tH).past fH).past hd) (((hp1.upd (hp1.ne ht)).upd (hp1.ne hf1)).upd ndp) (by omega) (by omega) ⟨upd_same, ?_, ?_⟩
    · rw [upd_ne ntd.symm, upd_ne nft]
      exact upd_same
    · rw [upd_ne nfd.symm]
      exact upd_same
abbrev nLShape : List Str := ["_law_pot_here", "_law_shapes_here", "_law_sources", "_law_at", "_law_product", "_law_fits", "_law_count", "_law_one", "_law_k"]
theorem scLShape : FnScope nLShape ["_law_pot_here", "_law_shapes_here"] (defScope sLShape) := ⟨rfl, rfl, rfl, by decide +kernel, rfl, by decide +kernel, by decide +kernel⟩
theorem ok_shape (F : FnP K "_law_shape" sLShape f fd) (GD : FnOk P w K mg base CX0 1 f1 fd1 ["_law_pot_here", "_law_many"] spDigit) (gD : mg "_law_digit" = some (.ref f1)) (kD : PySem.W.keepIn K (.ref f1) = true) (bD : Binds K fd1 ["_law_pot_here", "_law_many"] []) (gEnumerate : mg "enumerate" = none) (gRange : mg "range" = none) (gLen : mg "len" = none) : FnOk P w K mg base CX0 2 f fd ["_law_pot_here", "_law_shapes_here"] spShape := by
  refine F.ok scLShape (fun vs H Q E h => ?_) (fun cdv A ou s H vs Q E hr h => ?_)
  · obtain ⟨p, l, as, ss, rfl, _⟩ := h
    rfl
  · obtain ⟨p, l, as, ss, rfl, hp, hs, np, few, oks, some0, kk⟩ := h
    have nd := scLShape.nd
    have hr1 : Room 1 _ := hr
    have hu6 := hr.units
    have hu := hu_of hr
    refine ⟨_, PSs.nox (pss_cons (ps_setLc (i := 2) (own := [("_law_k", 8), ("_law_one", 7)]) (g := (gTup K 2 (gCons (gName 8) (gCons (gName 7) gNil)))) (tt := _) rfl nd rfl rfl (sw_true rfl rfl rfl rfl) (pi_enum (by rfl) gEnumerate (pa_cons (pv 1) pa_nil)) (blkOk_by (N := nLShape) (sc := defScope sLShape) (by decide +kernel))
        (fun _ _ _ _ _ => (pg_tup rfl (pgs_cons (pg_name (i := 8) nd rfl (Or.inl rfl)) (pgs_cons (pg_name (i := 7) nd rfl (Or.inl rfl)) pgs_nil)))) (fun _ _ _ _ _ => (pts_one (pt_cmpR op_gt (pe_dget hu (pv 7) pe_str (fun _ _ => rfl)) pe_int (nomark _)))) (fun _ _ _ _ _ => (pv 8)))
      (pss_cons (ps_set (i := 3) nd rfl (Or.inl rfl) (pe_ix ix_list (pv 2) (pe_call GD hr1 rfl gD kD bD .nil pass0 (pa_cons (pv 0) (pa_cons (pe_callB call_len_seq (by rfl) gLen PySem.boot_len (pa_cons (pv 2) pa_nil)) pa_nil))) (fun _ _ => rfl)))
      (pss_cons (ps_set (i := 4) nd rfl (Or.inr rfl) (pe_op op_mul (pe_dget hu (pe_ix ix_list (pv 1) (pv 3) (fun _ _ => rfl)) pe_str (fun _ _ => rfl)) (pe_dget hu (pe_ix ix_list (pv 1) (pv 3) (fun _ _ => rfl)) pe_str (fun _ _ => rfl))))
      (pss_cons (ps_setLc (i := 5) (own := [("_law_count", 6)]) (g := (gName 6)) (tt := _) rfl nd rfl rfl (sw_true rfl rfl rfl rfl) (pi_range2 rfl gRange (pa_cons pe_int (pa_cons pe_int pa_nil))) (blkOk_by (N := nLShape) (sc := defScope sLShape) (by decide +kernel))
        (fun _ _ _ _ _ => (pg_name (i := 6) nd rfl (Or.inl rfl))) (fun _ _ _ _ _ => (pts_one (PW.pt (pw_and (pt_cmpR op_eq (pe_op op_mod (pv 4) (pv 6)) pe_int (nomark _)) (pw_and1 (pt_cmpR op_le (pe_op op_fdiv (pv 4) (pv 6)) pe_int (nomark _))))))) (fun _ _ _ _ _ => (pv 6)))
      (pss_cons (ps_set (i := 6) nd rfl (Or.inl rfl) (pe_ix ix_list (pv 5) (pe_call GD hr1 rfl gD kD bD .nil pass0 (pa_cons (pv 0) (pa_cons (pe_callB call_len_seq (by rfl) gLen PySem.boot_len (pa_cons (pv 5) pa_nil)) pa_nil))) (fun _ _ => rfl)))
      (pss_cons (ps_set (i := 7) nd rfl (Or.inl rfl) (pe_disp (pps_cons pe_str (pv 6) (pps_cons pe_str (pe_op op_add pe_int (pe_call GD hr1 rfl gD kD bD .nil pass0 (pa_cons (pv 0) (pa_cons pe_int pa_nil)))) (pps_cons pe_str (pe_lst (pa_cons (pe_op op_fdiv (pv 4) (pv 6)) pa_nil)) (pps_cons pe_str (pe_lst (pa_cons (pv 3) pa_nil)) pps_nil)))) (by rfl) (by rfl) (fun z => by cases z) (by decide)))
      (pss_cons (ps_dput hu (pv 7) pe_str (pe_ix ix_list (pe_lst (pa_cons pe_int (pa_cons pe_int (pa_cons pe_int (pa_cons pe_int pa_nil))))) (pe_call GD hr1 rfl gD kD bD .nil pass0 (pa_cons (pv 0) (pa_cons pe_int pa_nil))) (fun _ _ => rfl)) rfl)
      (pss_cons (ps_if (PW.pt (pw_and (pt_cmpR (op_eqD hu6) (pe_dget hu (pv 7) pe_str (fun _ _ => rfl)) (pe_lst (pa_cons pe_int pa_nil)) (nomark _)) (pw_and1 (pt_cmpR op_eq (pe_call GD hr1 rfl gD kD bD .nil pass0 (pa_cons (pv 0) (pa_cons pe_int pa_nil))) pe_int (nomark _))))) (pss_one (ps_expr (pe_bm PySem.F.plainAttrs_dict PySem.F.slot_dict_update PySem.F.type_dict_update mt_updD (pv 7) (pa_cons (pe_disp (pps_cons pe_str pe_int (pps_cons pe_str pe_int pps_nil)) (by rfl) (by rfl) (fun z => by cases z) (by decide)) pa_nil)))) pss_nil)
      (pss_one (ps_ret (pv 7))))))))))), ?_⟩
    have hsG : ∀ {G : Hp}, Kept p H G → Shs G l as ss := fun k => hs.kept k np
    have nlp : l ≠ p := fun z => np (z ▸ List.mem_cons_self)
    have lens := hs.2.1.len
    -- the sources
    refine ⟨_, rfl, l, _, rfl, SqL.of hs.1, fun D hD => ?_⟩
    refine lc_it (walk_enum (xs := as.map fun a => V.ref a.d)) (fun j H' => (∃ ks : List Nat, H' D = some (.lst (ks.map natV)) ∧ ks.length ≤ j ∧ (∀ k ∈ ks, ∃ c, ss[k]? = some c ∧ 0 < c.gv) ∧ ∀ k c, k < j → ss[k]? = some c → 0 < c.gv → k ∈ ks) ∧ Same H H') ⟨⟨[], upd_same, Nat.le_refl _, fun _ h => (List.not_mem_nil h).elim, fun _ _ h => absurd h (Nat.not_lt_zero _)⟩, Same.past (Same.refl _) hD⟩ (fun j H' _ e => SqL.of (e.2 _ _ hs.1)) (fun j v H' H'' hj e y => ?_) (fun H1 e => ?_)
    · obtain ⟨⟨ks, hk, kl, kin, kall⟩, sm⟩ := e
      obtain ⟨TT, x1, x2, rfl, hTT, rfl, e1, e2⟩ := y
      cases e1
      have e2 : (as.map fun a => V.ref a.d)[j]? = some x2 := e2
      rw [List.getElem?_map] at e2
      obtain ⟨a, ea, rfl⟩ := Option.map_eq_some_iff.mp e2
      obtain ⟨c, ec, hc⟩ := hs.2.1.get ea
      have sT := Same.new (o := .tup [V.int ((j : Nat) : Int), V.ref a.d]) (Same.refl H') hTT
      have sGT := sm.trans sT
      refine ⟨TT, _, rfl, .inl (.inl upd_same), rfl, _, _, rfl, _, _, rfl, rfl, rfl, ?_⟩
      generalize upd H' TT (.tup [V.int ((j : Nat) : Int), V.ref a.d]) = GT at sT sGT
      refine ⟨_, rfl, a.d, _, rfl, dg_gives (hc.keep sGT), _, _, rfl, rfl, _, rfl, ?_⟩
      have hkT := sT _ _ hk
      have jl := (List.getElem?_eq_some_iff.mp ea).1
      refine ite2 (fun z => ?_) (fun z => ?_)
      · have g0 : 0 < c.gv := by
          have := of_decide_eq_true z
          omega
        refine ⟨_, rfl, _, hkT, ?_, ⟨ks ++ [j], ?_, ?_, fun k hk => ?_, fun k c' hk' e' g' => ?_⟩, Same.past sGT hD⟩
        · rw [List.length_map]
          exact Nat.lt_of_lt_of_le (show ks.length < 100 by omega) (by decide)
        · rw [List.map_append]
          exact upd_same
        · rw [List.length_append]
          exact Nat.succ_le_succ kl
        · rcases List.mem_append.mp hk with hk | hk
          · exact kin k hk
          · rw [List.mem_singleton.mp hk]
            exact ⟨c, ec, g0⟩
        · rcases Nat.lt_or_ge k j with h | h
          · exact List.mem_append_left _ (kall k c' h e' g')
          · have : k = j := by omega
            rw [this]
            exact List.mem_append_right _ List.mem_cons_self
      · refine ⟨⟨ks, hkT, by omega, kin, fun k c' hk' e' g' => ?_⟩, sGT⟩
        rcases Nat.lt_or_ge k j with h | h
        · exact kall k c' h e' g'
        · have : k = j := by omega
          subst this
          rw [ec] at e'
          cases e'
          exact absurd (decide_eq_true (by omega)) z
    obtain ⟨⟨ks, hk, kl, kin, kall⟩, s1⟩ := e
    rw [List.length_map] at kl kall
    have kne : ks ≠ [] := by
      obtain ⟨c, cm, g0⟩ := some0
      obtain ⟨i, ei⟩ := List.getElem?_of_mem cm
      have := kall i c (by rw [lens]; exact (List.getElem?_eq_some_iff.mp ei).1) ei g0
      exact List.ne_nil_of_mem this
    have kpos := List.length_pos_iff.mpr kne
    have nDp := hp.ne hD
    -- the source
    refine ⟨_, rfl, _, rfl, _, rfl, D, _, rfl, .inl (SqL.of hk), p, _, rfl, hp.keep s1, by rw [List.length_map]; omega, by rw [List.length_map]; omega, fun e2 H2 d0 d1 k2 hp2 => ?_⟩
    obtain ⟨e2, rfl, e2l⟩ := nat_of d0 d1
    rw [List.length_map] at e2l
    have e2k : e2 < ks.length := by omega
    obtain ⟨at_, ea⟩ : ∃ a, ks[e2]? = some a := ⟨_, List.getElem?_eq_getElem e2k⟩
    obtain ⟨c, ec_, g0⟩ := kin at_ (List.mem_of_getElem? ea)
    have hk2 := k2 _ _ nDp hk
    have K2 : Kept p H H2 := (Kept.same s1).trans k2
    refine ⟨D, _, _, natV at_, rfl, rfl, SqL.of hk2, atI_nat (j := e2) (by rw [List.getElem?_map, ea]; rfl), ?_⟩
    -- the product
    have hs2 := hsG K2
    obtain ⟨a0, ea0, hc0⟩ := hs2.2.1.get' ec_
    obtain ⟨c1, c12, g8⟩ := oks c (List.mem_of_getElem? ec_)
    have il : (as.map fun a => V.ref a.d)[at_]? = some (.ref a0.d) := by rw [List.getElem?_map, ea0]; rfl
    refine ⟨_, rfl, _, rfl, l, _, _, _, rfl, rfl, SqL.of hs2.1, atI_nat (j := at_) il, a0.d, _, rfl, dg_count hc0, ?_⟩
    refine ⟨_, rfl, _, rfl, l, _, _, _, rfl, rfl, SqL.of hs2.1, atI_nat (j := at_) il, a0.d, _, rfl, dg_gives hc0, _, _, rfl, rfl, .inl ⟨by omega, by omega⟩, ?_⟩
    dsimp only [gName]
    obtain ⟨pr, epr⟩ : ∃ pr : Nat, pr = c.ct * c.gv := ⟨_, rfl⟩
    have ePI : (c.ct : Int) * (c.gv : Int) = (pr : Int) := by rw [epr]; exact (Int.natCast_mul _ _).symm
    have pr0 : 0 < pr := by rw [epr]; exact Nat.mul_pos (by omega) g0
    have pr96 : pr ≤ 96 := by
      rw [epr]
      exact Nat.le_trans (Nat.mul_le_mul c12 g8) (by decide)
    rw [ePI]
    -- the counts that fit
    refine ⟨_, _, rfl, by decide, fun D2 hD2 => ?_⟩
    have nD2p := hp2.ne hD2
    refine lc_range (fun j H' => (∃ cs : List Nat, H' D2 = some (.lst (cs.map natV)) ∧ cs.length ≤ j ∧ (∀ x ∈ cs, 1 ≤ x ∧ x ≤ 12 ∧ pr % x = 0 ∧ pr / x ≤ 8) ∧ ∀ x, 1 ≤ x → x ≤ j → pr % x = 0 → pr / x ≤ 8 → x ∈ cs) ∧ Same H2 H') ⟨⟨[], upd_same, Nat.le_refl _, fun _ h => (List.not_mem_nil h).elim, fun x h1 h2 => by omega⟩, Same.past (Same.refl _) hD2⟩ (fun j H' hj e => ?_) (fun H3 e => ?_)
    · obtain ⟨⟨cs, hcs, cl, cin, call⟩, sm⟩ := e
      have hj : j < 12 := hj
      have ec1 : (1 : Int) + (j : Int) = ((j + 1 : Nat) : Int) := by omega
      rw [ec1]
      have md : (pr : Int) % ((j + 1 : Nat) : Int) = ((pr % (j + 1) : Nat) : Int) := (Int.natCast_emod _ _).symm
      have dv : (pr : Int) / ((j + 1 : Nat) : Int) = ((pr / (j + 1) : Nat) : Int) := (Int.natCast_ediv _ _).symm
      refine ⟨rfl, ?_⟩
      refine ⟨_, rfl, _, rfl, _, _, rfl, rfl, by omega, rfl, _, rfl, ?_⟩
      have miss : ¬ (pr % (j + 1) = 0 ∧ pr / (j + 1) ≤ 8) → (∃ cs : List Nat, H' D2 = some (.lst (cs.map natV)) ∧ cs.length ≤ j + 1 ∧ (∀ x ∈ cs, 1 ≤ x ∧ x ≤ 12 ∧ pr % x = 0 ∧ pr / x ≤ 8) ∧ ∀ x, 1 ≤ x → x ≤ j + 1 → pr % x = 0 → pr / x ≤ 8 → x ∈ cs) ∧ Same H2 H' := fun n => by
        refine ⟨⟨cs, hcs, by omega, cin, fun x x1 xj h1 h2 => ?_⟩, sm⟩
        by_cases q : x = j + 1
        · subst q
          exact absurd ⟨h1, h2⟩ n
        · exact call x x1 (by omega) h1 h2
      refine ite2 (fun z => ?_) (fun z => ?_)
      · have z := V.int.inj (of_decide_eq_true z)
        rw [md] at z
        refine ⟨_, rfl, _, rfl, _, _, rfl, rfl, ⟨by omega, by omega⟩, _, _, rfl, rfl, _, rfl, ?_⟩
        refine ite2 (fun z2 => ?_) (fun z2 => ?_)
        · have z2 := of_decide_eq_true z2
          rw [dv] at z2
          refine ⟨_, rfl, _, hcs, ?_, ⟨cs ++ [j + 1], ?_, ?_, fun x hx => ?_, fun x x1 xj h1 h2 => ?_⟩, Same.past sm hD2⟩
          · rw [List.length_map]
            exact Nat.lt_of_lt_of_le (show cs.length < 100 by omega) (by decide)
          · rw [List.map_append]
            exact upd_same
          · rw [List.length_append]
            exact Nat.succ_le_succ cl
          · rcases List.mem_append.mp hx with hx | hx
            · exact cin x hx
            · rw [List.mem_singleton.mp hx]
              exact ⟨by omega, by omega, by omega, by omega⟩
          · by_cases q : x = j + 1
            · rw [q]
              exact List.mem_append_right _ List.mem_cons_self
            · exact List.mem_append_left _ (call x x1 (by omega) h1 h2)
        · exact miss fun q => z2 (decide_eq_true (by rw [dv]; omega))
      · exact miss fun q => z (decide_eq_true (by show V.int ((pr : Int) % ((j + 1 : Nat) : Int)) = V.int 0; rw [md, q.1]; rfl))
    obtain ⟨⟨cs, hcs, cl, cin, call⟩, s3⟩ := e
    have cl : cs.length ≤ 12 := cl
    have call : ∀ x, 1 ≤ x → x ≤ 12 → pr % x = 0 → pr / x ≤ 8 → x ∈ cs := call
    have cpos : 0 < cs.length := by
      refine List.length_pos_iff.mpr (List.ne_nil_of_mem (call c.ct c1 c12 ?_ ?_))
      · rw [epr]
        exact Nat.mul_mod_right _ _
      · rw [epr, Nat.mul_div_cancel_left _ (by omega)]
        exact g8
    have K3 : Kept p H H3 := K2.trans (Kept.same s3)
    have hp3 := hp2.keep s3
    -- the count
    refine ⟨_, rfl, _, rfl, _, rfl, D2, _, rfl, .inl (SqL.of hcs), p, _, rfl, hp3, by rw [List.length_map]; omega, by rw [List.length_map]; omega, fun e4 H4 d0 d1 k4 hp4 => ?_⟩
    obtain ⟨e4, rfl, e4l⟩ := nat_of d0 d1
    rw [List.length_map] at e4l
    have e4k : e4 < cs.length := by omega
    obtain ⟨x, ex⟩ : ∃ a, cs[e4]? = some a := ⟨_, List.getElem?_eq_getElem e4k⟩
    obtain ⟨x1, x12, xm, x8⟩ := cin x (List.mem_of_getElem? ex)
    have hcs4 := k4 _ _ nD2p hcs
    have K4 := K3.trans k4
    refine ⟨D2, _, _, natV x, rfl, rfl, SqL.of hcs4, atI_nat (j := e4) (by rw [List.getElem?_map, ex]; rfl), ?_⟩
    have dv : (pr : Int) / (x : Int) = ((pr / x : Nat) : Int) := (Int.natCast_ediv _ _).symm
    obtain ⟨r, er⟩ : ∃ r, r = pr / x := ⟨_, rfl⟩
    have rx : r * x = pr := by
      rw [er]
      exact Nat.div_mul_cancel (Nat.dvd_of_mod_eq_zero xm)
    have r1 : 1 ≤ r := by
      rcases Nat.eq_zero_or_pos r with h | h
      · rw [h, Nat.zero_mul] at rx
        omega
      · exact h
    -- the shape
    refine fun d hd => ?_
    have s5 := Same.new (o := .dK []) (Same.refl H4) hd
    have g5 : upd H4 d (.dK []) d = some (.dK []) := upd_same
    have ndp := hp4.ne hd
    have dH := K4.free hp4 hd
    have K5 : Kept p H (upd H4 d (.dK [])) := K4.past dH
    have hp5 := hp4.keep s5
    generalize upd H4 d (.dK []) = H5 at s5 g5 K5 hp5
    refine ⟨_, rfl, _, rfl, p, _, rfl, hp5, by decide, by decide, fun e6 H6 d0 d1 k6 hp6 => ⟨_, _, rfl, rfl, ?_⟩⟩
    obtain ⟨gm, rfl, gml⟩ := nat_of d0 d1
    have ec : V.int (1 + (gm : Int)) = natV (gm + 1) := by
      unfold natV
      congr 1
      omega
    have K6 := K5.trans k6
    have g6 := k6 _ _ ndp g5
    refine ⟨_, rfl, _, rfl, _, _, rfl, rfl, ⟨by omega, by omega⟩, (by show 1 ≤ sizeLine; decide), fun t ht => ⟨_, rfl, (by show 1 ≤ sizeLine; decide), fun f hf => ?_⟩⟩
    have er2 : V.int ((pr : Int) / (x : Int)) = natV r := by
      rw [dv, er]
      rfl
    have ntd : d ≠ t := ne_of_none g6 ht
    have hf6 : H6 f = none ∧ t ≠ f := by
      by_cases q : f = t
      · rw [q, upd_same] at hf
        cases hf
      · rw [upd_ne q] at hf
        exact ⟨hf, fun z => q z.symm⟩
    have nfd : d ≠ f := ne_of_none g6 hf6.1
    have tH := K6.free hp6 ht
    have fH := K6.free hp6 hf6.1
    refine ⟨by rw [upd_ne nfd, upd_ne ntd]; exact g6, shKV4 x (gm + 1) ⟨d, t, f⟩, (by
      show (V.str "count", natV x) :: (V.str "gives", V.int (1 + (gm : Int))) :: _ = _
      rw [ec]
      rfl), (by show 4 ≤ 15; decide), ?_⟩
    rw [show (fun i j => V.int (i / j)) (pr : Int) (x : Int) = natV r from er2]
    have K7 : Kept p H (upd (upd (upd H6 t (.lst [natV r])) f (.lst [natV at_])) d (.dK (mergeK [] (shKV4 x (gm + 1) ⟨d, t, f⟩)))) := ((K6.past tH).past fH).past dH
    have hp7 : PotAt (upd (upd (upd H6 t (.lst [natV r])) f (.lst [natV at_])) d (.dK (mergeK [] (shKV4 x (gm + 1) ⟨d, t, f⟩)))) p := ((hp6.upd (hp6.ne ht)).upd (hp6.ne hf6.1)).upd ndp
    have gd7 : (upd (upd (upd H6 t (.lst [natV r])) f (.lst [natV at_])) d (.dK (mergeK [] (shKV4 x (gm + 1) ⟨d, t, f⟩)))) d = some (.dK (mergeK [] (shKV4 x (gm + 1) ⟨d, t, f⟩))) := upd_same
    have gt7 : (upd (upd (upd H6 t (.lst [natV r])) f (.lst [natV at_])) d (.dK (mergeK [] (shKV4 x (gm + 1) ⟨d, t, f⟩)))) t = some (.lst [natV r]) := by
      rw [upd_ne ntd.symm, upd_ne hf6.2]
      exact upd_same
    have gf7 : (upd (upd (upd H6 t (.lst [natV r])) f (.lst [natV at_])) d (.dK (mergeK [] (shKV4 x (gm + 1) ⟨d, t, f⟩)))) f = some (.lst [natV at_]) := by
      rw [upd_ne nfd.symm]
      exact upd_same
    generalize upd (upd (upd H6 t (.lst [natV r])) f (.lst [natV at_])) d (.dK (mergeK [] (shKV4 x (gm + 1) ⟨d, t, f⟩))) = H7 at K7 hp7 gd7 gt7 gf7
    have ntp : t ≠ p := hp6.ne ht
    have nfp : f ≠ p := hp6.ne hf6.1
    -- how many more
    refine ⟨(by show 4 ≤ sizeLine; decide), fun q hq => ?_⟩
    have s8 := Same.new (o := .lst [V.int 0, V.int 0, V.int 1, V.int 3]) (Same.refl H7) hq
    have g8q : upd H7 q (.lst [V.int 0, V.int 0, V.int 1, V.int 3]) q = some (.lst [V.int 0, V.int 0, V.int 1, V.int 3]) := upd_same
    have nqp := hp7.ne hq
    generalize upd H7 q (.lst [V.int 0, V.int 0, V.int 1, V.int 3]) = H8 at s8 g8q
    refine ⟨_, rfl, p, _, rfl, hp7.keep s8, by decide, by decide, fun e9 H9 d0 d1 k9 hp9 => ?_⟩
    obtain ⟨m, em, m3⟩ := four_more d0 d1
    have K9 : Kept p H H9 := K7.trans ((Kept.same s8).trans k9)
    have k79 : Kept p H7 H9 := (Kept.same s8).trans k9
    have gd9 := k79 _ _ ndp gd7
    have gt9 := k79 _ _ ntp gt7
    have gf9 := k79 _ _ nfp gf7
    refine ⟨q, _, _, _, rfl, rfl, SqL.of (k9 _ _ nqp g8q), em, ?_⟩
    refine ⟨_, rfl, d, _, rfl, DPut.k (k := kS "more") gd9 ?_, ?_⟩
    · exact Nat.lt_of_le_of_lt (length_mergeK _ _) (by show 0 + 4 < _; decide)
    rw [merge_sh4 (tk := [r]) (fd := [at_])]
    have sh : ShAt (upd H9 d (.dK (shKV ⟨x, gm + 1, [r], [at_], m, none⟩ ⟨d, t, f⟩))) ⟨d, t, f⟩ ⟨x, gm + 1, [r], [at_], m, none⟩ := ⟨upd_same, by rw [upd_ne ntd.symm]; exact gt9, by rw [upd_ne nfd.symm]; exact gf9⟩
    have K10 : Kept p H (upd H9 d (.dK (shKV ⟨x, gm + 1, [r], [at_], m, none⟩ ⟨d, t, f⟩))) := K9.past dH
    have hp10 : PotAt (upd H9 d (.dK (shKV ⟨x, gm + 1, [r], [at_], m, none⟩ ⟨d, t, f⟩))) p := hp9.upd ndp
    generalize upd H9 d (.dK (shKV ⟨x, gm + 1, [r], [at_], m, none⟩ ⟨d, t, f⟩)) = H10 at sh K10 hp10
    have nw : NewA H ⟨d, t, f⟩ := ⟨dH, tH, fH, ntd, nfd, hf6.2⟩
    have good : NewOk ss ⟨x, gm + 1, [r], [at_], m, none⟩ := ⟨at_, c, r, ec_, g0, rfl, rfl, r1, by omega, by show r * x = _; rw [rx, epr], x1, x12, .inl ⟨by show 1 ≤ gm + 1; omega, by show gm + 1 ≤ 8; omega, m3⟩, rfl⟩
    refine ⟨_, rfl, d, _, rfl, dg_takes sh, (by show 1 ≤ sizeLine; decide), fun l1 h1 => ?_⟩
    have s11 := Same.new (o := .lst [V.int 1]) (Same.refl H10) h1
    have g11 : upd H10 l1 (.lst [V.int 1]) l1 = some (.lst [V.int 1]) := upd_same
    have l1H := K10.free hp10 h1
    have K11 : Kept p H (upd H10 l1 (.lst [V.int 1])) := K10.past l1H
    have hp11 := hp10.keep s11
    generalize upd H10 l1 (.lst [V.int 1]) = H11 at s11 g11 K11 hp11
    have sh11 := sh.keep s11
    refine ⟨.list [natD r], .list [.int 1], .lst (SqL.of sh11.2.1) (.cons (.int _) .nil), .lst (SqL.of g11) (.cons (.int _) .nil), rfl, rfl, _, rfl, ?_⟩
    rw [eqv_one]
    refine ite2 (fun z => ?_) (fun z => ?_)
    · have rr := of_decide_eq_true z
      refine ⟨_, rfl, p, _, rfl, hp11, by decide, by decide, fun e12 H12 d0 d1 k12 hp12 => ⟨rfl, _, rfl, ?_⟩⟩
      have K12 := K11.trans k12
      have sh12 : ShAt H12 ⟨d, t, f⟩ ⟨x, gm + 1, [r], [at_], m, none⟩ := sh11.at fun b hb o e => k12 b o (by rcases hb with rfl | rfl | rfl <;> assumption) e
      refine ite2 (fun _ => ?_) (fun _ => ?_)
      · refine ⟨_, rfl, .inr (.inr (.inl ⟨rfl, .inl ⟨_, sh12.1⟩⟩)), fun d2 hd2 => ?_⟩
        have g13 : upd H12 d2 (.dK []) d2 = some (.dK []) := upd_same
        refine ⟨g13, [(kS "gives", natV 0), (kS "more", natV 0)], rfl, (by show 2 ≤ 15; decide), ?_⟩
        rw [merge_2, upd_upd]
        have nd2 : d ≠ d2 := ne_of_none sh12.1 hd2
        have s14 := Same.new (o := .dK [(kS "gives", natV 0), (kS "more", natV 0)]) (Same.refl H12) hd2
        have g14 : upd H12 d2 (.dK [(kS "gives", natV 0), (kS "more", natV 0)]) d2 = some (.dK [(kS "gives", natV 0), (kS "more", natV 0)]) := upd_same
        have K14 : Kept p H (upd H12 d2 (.dK [(kS "gives", natV 0), (kS "more", natV 0)])) := K12.past (K12.free hp12 hd2)
        have hp14 := hp12.keep s14
        generalize upd H12 d2 (.dK [(kS "gives", natV 0), (kS "more", natV 0)]) = H14 at s14 g14 K14 hp14
        have sh14 := sh12.keep s14
        refine ⟨d, d2, _, _, rfl, rfl, nd2, sh14.1, g14, ?_, ?_⟩
        · exact Nat.le_trans (Nat.add_le_add sh_len (Nat.le_refl 2)) (by decide)
        rw [merge_gm]
        refine ⟨_, rfl, kk ⟨d, t, f⟩ ⟨x, 0, [r], [at_], 0, none⟩ _ nw (K14.past dH) (hp14.upd ndp) ⟨at_, c, r, ec_, g0, rfl, rfl, r1, by omega, by show r * x = _; rw [rx, epr], x1, x12, .inr ⟨rfl, rfl, rr⟩, rfl⟩ ⟨upd_same, ?_, ?_⟩⟩
        · rw [upd_ne ntd.symm]
          exact sh14.2.1
        · rw [upd_ne nfd.symm]
          exact sh14.2.2
      · exact ⟨_, rfl, kk ⟨d, t, f⟩ _ H12 nw K12 hp12 good sh12⟩
    · exact ⟨_, rfl, kk ⟨d, t, f⟩ _ H11 nw K11 hp11 good sh11⟩
end
end Sw
namespace Sw
open PySem PySem.Spec PyProof.Rows L2
/-! ### shapes fed by others -/
def mayF (c s : Shp) : Bool := decide (0 < c.ct * c.gv ∧ c.ct * c.gv % s.ct = 0 ∧ c.ct * c.gv / s.ct ≤ 8)
/-- what is kept outside of some places -/
def KD (D : List Addr) (H H' : Hp) : Prop := ∀ b o, b ∉ D → H b = some o → H' b = some o
theorem KD.refl {D : List Addr} {H : Hp} : KD D H H := fun _ _ _ e => e
theorem KD.trans {D : List Addr} {H H1 H2 : Hp} (a : KD D H H1) (b : KD D H1 H2) : KD D H H2 := fun c o n e => b c o n (a c o n e)
theorem KD.kept {D : List Addr} {p : Addr} {H H' : Hp} (k : Kept p H H') (m : p ∈ D) : KD D H H' := fun b o n e => k b o (fun z => n (z ▸ m)) e
theorem KD.upd {D : List Addr} {q : Addr} {H H' : Hp} {o : HO} (k : KD D H H') (m : q ∈ D) : KD D H (L2.upd H' q o) := fun b u n e => by
  rw [upd_ne (show b ≠ q from fun z => n (z ▸ m))]
  exact k b u n e
theorem KD.past {D : List Addr} {q : Addr} {H H' : Hp} {o : HO} (k : KD D H H') (h : H q = none) : KD D H (L2.upd H' q o) := fun b u n e => by
  rw [upd_ne (show b ≠ q from fun z => by rw [z, h] at e; cases e)]
  exact k b u n e
theorem Al.of_get {α β : Type} {R R' : α → β → Prop} : ∀ {as : List α} {bs : List β}, Al R as bs → (∀ (i : Nat) (a : α) (b : β), as[i]? = some a → bs[i]? = some b → R a b → R' a b) → Al R' as bs
  | [], [], _, _ => trivial
  | a :: as, b :: bs, h, f => ⟨f 0 a b rfl rfl h.1, Al.of_get h.2 fun i a b e1 e2 r => f (i + 1) a b e1 e2 r⟩
  | [], _ :: _, h, _ => h.elim
  | _ :: _, [], h, _ => h.elim
/-- the places of two shapes are apart -/
theorem flat_at : ∀ {as : List Ad} {i : Nat} {a : Ad}, as[i]? = some a → (flat as)[3 * i]? = some a.d ∧ (flat as)[3 * i + 1]? = some a.t ∧ (flat as)[3 * i + 2]? = some a.f
  | [], i, a, h => by simp at h
  | b :: as, 0, a, h => by
    have : b = a := by simpa using h
    subst this
    exact ⟨rfl, rfl, rfl⟩
  | b :: as, i + 1, a, h => by
    obtain ⟨h1, h2, h3⟩ := flat_at (as := as) (i := i) (by simpa using h)
    have e : flat (b :: as) = b.d :: b.t :: b.f :: flat as := rfl
    rw [e]
    refine ⟨?_, ?_, ?_⟩
    · rw [show 3 * (i + 1) = 3 * i + 3 from by omega]
      simpa using h1
    · rw [show 3 * (i + 1) + 1 = 3 * i + 1 + 3 from by omega]
      simpa using h2
    · rw [show 3 * (i + 1) + 2 = 3 * i + 2 + 3 from by omega]
      simpa using h3
theorem nodup_at {l : List Addr} (h : l.Nodup) {i j : Nat} {a : Addr} (e1 : l[i]? = some a) (e2 : l[j]? = some a) : i = j := by
  obtain ⟨h1, g1⟩ := List.getElem?_eq_some_iff.mp e1
  obtain ⟨h2, g2⟩ := List.getElem?_eq_some_iff.mp e2
  exact (List.getElem_inj (h₀ := h1) (h₁ := h2) h).mp (g1.trans g2.symm)
theorem apart {as : List Ad} (nd : (flat as).Nodup) {i j : Nat} {a b : Ad} (e1 : as[i]? = some a) (e2 : as[j]? = some b) (n : i ≠ j) :
    a.d ≠ b.d ∧ a.d ≠ b.t ∧ a.d ≠ b.f ∧ a.t ≠ b.d ∧ a.t ≠ b.t ∧ a.t ≠ b.f ∧ a.f ≠ b.d ∧ a.f ≠ b.t ∧ a.f ≠ b.f := by
  obtain ⟨x1, x2, x3⟩ := flat_at e1
  obtain ⟨y1, y2, y3⟩ := flat_at e2
  refine ⟨fun z => ?_, fun z => ?_, fun z => ?_, fun z => ?_, fun z => ?_, fun z => ?_, fun z => ?_, fun z => ?_, fun z => ?_⟩
  · have := nodup_at nd x1 (z ▸ y1); omega
  · have := nodup_at nd x1 (z ▸ y2); omega
  · have := nodup_at nd x1 (z ▸ y3); omega
  · have := nodup_at nd x2 (z ▸ y1); omega
  · have := nodup_at nd x2 (z ▸ y2); omega
  · have := nodup_at nd x2 (z ▸ y3); omega
  · have := nodup_at nd x3 (z ▸ y1); omega
  · have := nodup_at nd x3 (z ▸ y2); omega
  · have := nodup_at nd x3 (z ▸ y3); omega
theorem apart1 {as : List Ad} (nd : (flat as).Nodup) {i : Nat} {a : Ad} (e1 : as[i]? = some a) : a.d ≠ a.t ∧ a.d ≠ a.f ∧ a.t ≠ a.f := by
  obtain ⟨x1, x2, x3⟩ := flat_at e1
  refine ⟨fun z => ?_, fun z => ?_, fun z => ?_⟩
  · have := nodup_at nd x1 (z ▸ x2); omega
  · have := nodup_at nd x1 (z ▸ x3); omega
  · have := nodup_at nd x2 (z ▸ x3); omega
/-- one shape is changed -/
theorem Al.set {α β : Type} {R R' : α → β → Prop} : ∀ {as : List α} {bs : List β} {j : Nat} {b' : β}, Al R as bs → (∀ (i : Nat) (a : α) (b : β), i ≠ j → as[i]? = some a → bs[i]? = some b → R a b → R' a b) → (∀ a, as[j]? = some a → R' a b') → Al R' as (bs.set j b')
  | [], [], _, _, _, _, _ => trivial
  | a :: as, b :: bs, 0, b', h, f, g => ⟨g a rfl, h.2.of_get fun i a b e1 e2 r => f (i + 1) a b (Nat.succ_ne_zero i) e1 e2 r⟩
  | a :: as, b :: bs, j + 1, b', h, f, g => ⟨f 0 a b (Nat.succ_ne_zero j).symm rfl rfl h.1, Al.set h.2 (fun i a b n e1 e2 r => f (i + 1) a b (fun z => n (Nat.succ.inj z)) e1 e2 r) fun a e => g a e⟩
  | [], _ :: _, _, _, h, _, _ => h.elim
  | _ :: _, [], _, _, h, _, _ => h.elim
def spMay : Sp := fun vs H Q _ => ∃ (a b : Ad) (c s : Shp), vs = [.ref a.d, .ref b.d] ∧ ShAt H a c ∧ ShAt H b s ∧ c.ct ≤ 12 ∧ c.gv ≤ 8 ∧ 1 ≤ s.ct ∧ s.ct ≤ 12 ∧ Q (.bl (mayF c s)) H
/-- the j-th shape is changed: its places alone -/
theorem Shs.set {H H' : Hp} {l : Addr} {as : List Ad} {ss : List Shp} (h : Shs H l as ss) {j : Nat} {a : Ad} {s' : Shp} (ea : as[j]? = some a) (hs : ShAt H' a s') (k : ∀ b o, b ≠ a.d → b ≠ a.t → b ≠ a.f → H b = some o → H' b = some o) : Shs H' l as (ss.set j s') := by
  obtain ⟨h1, h2, h3⟩ := h
  obtain ⟨m1, m2, m3⟩ := mem_flat (List.mem_of_getElem? ea)
  have nd := (List.nodup_cons.mp h3).2
  have nl := (List.nodup_cons.mp h3).1
  refine ⟨k l _ (fun z => nl (z ▸ m1)) (fun z => nl (z ▸ m2)) (fun z => nl (z ▸ m3)) h1, h2.set (fun i b s n e1 _ r => r.at fun q hq o e => ?_) (fun b e => ?_), h3⟩
  · obtain ⟨z1, z2, z3, z4, z5, z6, z7, z8, z9⟩ := apart nd e1 ea n
    rcases hq with rfl | rfl | rfl
    · exact k _ _ z1 z2 z3 e
    · exact k _ _ z4 z5 z6 e
    · exact k _ _ z7 z8 z9 e
  · rw [ea] at e
    cases e
    exact hs
theorem set_same {α : Type} : ∀ {l : List α} {j : Nat} {a : α}, l[j]? = some a → l.set j a = l
  | [], _, _, h => by simp at h
  | b :: l, 0, a, h => by
    have : b = a := by simpa using h
    rw [this]
    rfl
  | b :: l, j + 1, a, h => by
    show b :: l.set j a = b :: l
    rw [set_same (by simpa using h)]
theorem set_at {ss : List Shp} {j k : Nat} {s s' c' : Shp} (es : ss[j]? = some s) (h1 : s'.ct = s.ct) (h2 : s'.gv = s.gv) (e : (ss.set j s')[k]? = some c') : ∃ c, ss[k]? = some c ∧ c'.ct = c.ct ∧ c'.gv = c.gv := by
  by_cases z : j = k
  · subst z
    have jl := (List.getElem?_eq_some_iff.mp es).1
    rw [List.getElem?_set_self jl] at e
    cases e
    exact ⟨s, es, h1, h2⟩
  · rw [List.getElem?_set_ne z] at e
    exact ⟨c', e, rfl, rfl⟩
theorem set_to {ss : List Shp} {j k : Nat} {s s' c : Shp} (es : ss[j]? = some s) (h1 : s'.ct = s.ct) (h2 : s'.gv = s.gv) (e : ss[k]? = some c) : ∃ c', (ss.set j s')[k]? = some c' ∧ c'.ct = c.ct ∧ c'.gv = c.gv := by
  by_cases z : j = k
  · subst z
    have jl := (List.getElem?_eq_some_iff.mp es).1
    rw [es] at e
    cases e
    exact ⟨s', List.getElem?_set_self jl, h1, h2⟩
  · exact ⟨c, by rw [List.getElem?_set_ne z]; exact e, rfl, rfl⟩
theorem mayF_congr {c c' s s' : Shp} (h1 : c'.ct = c.ct) (h2 : c'.gv = c.gv) (h3 : s'.ct = s.ct) : mayF c' s' = mayF c s := by
  unfold mayF
  rw [h1, h2, h3]
/-- a shape with more feeds -/
def FedOk (ss : List Shp) (s : Shp) (n : Nat) (s' : Shp) : Prop := ∃ xs : List (Nat × Nat), xs.length = n ∧ s' = { s with fd := s.fd ++ xs.map Prod.fst, tk := s.tk ++ xs.map Prod.snd } ∧ ∀ x ∈ xs, ∃ c, ss[x.1]? = some c ∧ mayF c s = true ∧ x.2 = c.ct * c.gv / s.ct
def spFeed : Sp := fun vs H Q _ => ∃ (p l : Addr) (as : List Ad) (ss : List Shp) (j : Nat) (a : Ad) (s : Shp), vs = [.ref p, .ref l, .ref a.d] ∧ PotAt H p ∧ Shs H l as ss ∧ p ∉ l :: flat as ∧ ss.length ≤ 30 ∧ (∀ s ∈ ss, 1 ≤ s.ct ∧ s.ct ≤ 12 ∧ s.gv ≤ 8) ∧ as[j]? = some a ∧ ss[j]? = some s ∧ (0 < s.mo → ∃ c ∈ ss, mayF c s = true) ∧ s.mo ≤ 100 ∧ s.tk.length ≤ 100 ∧ s.fd.length ≤ 100 ∧
  ∀ (s' : Shp) (H' : Hp), FedOk ss s s.mo s' → Shs H' l as (ss.set j s') → PotAt H' p → KD (p :: l :: flat as) H H' → Q .non H'
section
variable {P : Program} {w : World} {K : PySem.W.Frag} {mg : Str → Option Value} {base : Heap} {f f1 f2 f3 f4 f5 f6 f7 f8 f9 C CN CO CI CW dd : Addr} {cl : Srt → Addr} {fd fd1 fd2 fd3 fd4 fd5 fd6 fd7 fd8 fd9 : FuncData}
abbrev nLMayFeed : List Str := ["_law_source", "_law_goal", "_law_product"]
theorem scLMayFeed : FnScope nLMayFeed ["_law_source", "_law_goal"] (defScope sLMayFeed) := ⟨rfl, rfl, rfl, by decide +kernel, rfl, by decide +kernel, by decide +kernel⟩
theorem ok_may (F : FnP K "_law_may_feed" sLMayFeed f fd) : FnOk P w K mg base CX0 1 f fd ["_law_source", "_law_goal"] spMay := by
  refine F.ok scLMayFeed (fun vs H Q E h => ?_) (fun cdv A ou s H vs Q E hr h => ?_)
  · obtain ⟨a, b, c, s, rfl, _⟩ := h
    rfl
  · obtain ⟨a, b, c, sg, rfl, ha, hb, c12, g8, s1, s12, kk⟩ := h
    have nd := scLMayFeed.nd
    have hu := hu_of hr
    refine ⟨_, PSs.nox (pss_cons (ps_set (i := 2) nd rfl (Or.inl rfl) (pe_op op_mul (pe_dget hu (pv 0) pe_str (fun _ _ => rfl)) (pe_dget hu (pv 0) pe_str (fun _ _ => rfl))))
      (pss_one (ps_ret (pe_and (pe_cmpR op_gt (pv 2) pe_int (nomark _)) (pe_and (pe_cmpR op_eq (pe_op op_mod (pv 2) (pe_dget hu (pv 1) pe_str (fun _ _ => rfl))) pe_int (nomark _)) (pe_one (pe_cmpR op_le (pe_op op_fdiv (pv 2) (pe_dget hu (pv 1) pe_str (fun _ _ => rfl))) pe_int (nomark _)))))))), ?_⟩
    refine ⟨_, rfl, a.d, _, rfl, dg_count ha, _, rfl, a.d, _, rfl, dg_gives ha, _, _, rfl, rfl, .inl ⟨by omega, by omega⟩, ?_⟩
    dsimp only [gName]
    obtain ⟨pr, epr⟩ : ∃ pr : Nat, pr = c.ct * c.gv := ⟨_, rfl⟩
    have ePI : (c.ct : Int) * (c.gv : Int) = (pr : Int) := by rw [epr]; exact (Int.natCast_mul _ _).symm
    rw [ePI]
    have md : (pr : Int) % (sg.ct : Int) = ((pr % sg.ct : Nat) : Int) := (Int.natCast_emod _ _).symm
    have dv : (pr : Int) / (sg.ct : Int) = ((pr / sg.ct : Nat) : Int) := (Int.natCast_ediv _ _).symm
    have no : ¬ (0 < c.ct * c.gv ∧ c.ct * c.gv % sg.ct = 0 ∧ c.ct * c.gv / sg.ct ≤ 8) → Q (.bl false) H := fun n => by
      have e : mayF c sg = false := decide_eq_false n
      rw [e] at kk
      exact kk
    have yes : (0 < c.ct * c.gv ∧ c.ct * c.gv % sg.ct = 0) → Q (.bl (decide (((pr / sg.ct : Nat) : Int) ≤ 8))) H := fun n => by
      have e : mayF c sg = decide (((pr / sg.ct : Nat) : Int) ≤ 8) := decide_eq_decide.mpr ⟨fun z => by rw [epr]; have := z.2.2; omega, fun z => ⟨n.1, n.2, by rw [← epr]; omega⟩⟩
      rw [e] at kk
      exact kk
    refine ⟨_, rfl, _, _, rfl, rfl, _, rfl, ?_⟩
    refine ite2 (fun z => ?_) (fun z => ?_)
    · have z := of_decide_eq_true z
      refine ⟨_, rfl, _, rfl, b.d, _, rfl, dg_count hb, _, _, rfl, rfl, by omega, rfl, _, rfl, ?_⟩
      refine ite2 (fun z2 => ?_) (fun z2 => ?_)
      · have z2 := V.int.inj (of_decide_eq_true z2)
        rw [md] at z2
        refine ⟨_, rfl, _, rfl, b.d, _, rfl, dg_count hb, _, _, rfl, rfl, ⟨by omega, by omega⟩, _, _, rfl, rfl, ?_⟩
        show Q (.bl (decide ((pr : Int) / (sg.ct : Int) ≤ 8))) H
        rw [dv]
        exact yes ⟨by rw [← epr]; omega, by rw [← epr]; omega⟩
      · refine no fun q => z2 (decide_eq_true ?_)
        show V.int ((pr : Int) % (sg.ct : Int)) = V.int 0
        rw [md, epr, q.2.1]
        rfl
    · exact no fun q => z (decide_eq_true (by rw [epr]; have := q.1; omega))
abbrev nLFeed : List Str := ["_law_pot_here", "_law_shapes_here", "_law_one", "_law_turn", "_law_some", "_law_at", "_law_fed", "_law_other"]
theorem scLFeed : FnScope nLFeed ["_law_pot_here", "_law_shapes_here", "_law_one"] (defScope sLFeed) := ⟨rfl, rfl, rfl, by decide +kernel, rfl, by decide +kernel, by decide +kernel⟩
theorem ok_feed (F : FnP K "_law_feed" sLFeed f fd) (GD : FnOk P w K mg base CX0 1 f1 fd1 ["_law_pot_here", "_law_many"] spDigit) (gD : mg "_law_digit" = some (.ref f1)) (kD : PySem.W.keepIn K (.ref f1) = true) (bD : Binds K fd1 ["_law_pot_here", "_law_many"] [])
    (GM : FnOk P w K mg base CX0 1 f2 fd2 ["_law_source", "_law_goal"] spMay) (gM : mg "_law_may_feed" = some (.ref f2)) (kM : PySem.W.keepIn K (.ref f2) = true) (bM : Binds K fd2 ["_law_source", "_law_goal"] []) (gEnumerate : mg "enumerate" = none) (gRange : mg "range" = none) (gLen : mg "len" = none) : FnOk P w K mg base CX0 2 f fd ["_law_pot_here", "_law_shapes_here", "_law_one"] spFeed := by
  refine F.ok scLFeed (fun vs H Q E h => ?_) (fun cdv A ou s H vs Q E hr h => ?_)
  · obtain ⟨p, l, as, ss, j, a, s, rfl, _⟩ := h
    rfl
  · obtain ⟨p, l, as, ss, j, a, sj, rfl, hp, hs, np, few, oks, ea, es, src, mo, tkl, fdl, kk⟩ := h
    have nd := scLFeed.nd
    have hr1 : Room 1 _ := hr
    have hu := hu_of hr
    refine ⟨_, PSs.nox (pss_one (ps_for PassesOwn.never rfl (pi_range1 rfl gRange (pa_cons (pe_dget hu (pv 2) pe_str (fun _ _ => rfl)) pa_nil)) (pg_name (i := 3) nd rfl (Or.inl rfl))
      (pss_cons (ps_setLc (i := 4) (own := [("_law_at", 5), ("_law_other", 7)]) (g := (gTup K 2 (gCons (gName 5) (gCons (gName 7) gNil)))) (tt := _) rfl nd rfl rfl (sw_true rfl rfl rfl rfl) (pi_enum (by rfl) gEnumerate (pa_cons (pv 1) pa_nil)) (blkOk_by (N := nLFeed) (sc := defScope sLFeed) (by decide +kernel))
        (fun _ _ _ _ _ => (pg_tup rfl (pgs_cons (pg_name (i := 5) nd rfl (Or.inl rfl)) (pgs_cons (pg_name (i := 7) nd rfl (Or.inl rfl)) pgs_nil)))) (fun _ _ _ _ _ => (pts_one (pt_val (pe_call GM hr1 rfl gM kM bM .nil pass0 (pa_cons (pv 7) (pa_cons (pv 2) pa_nil)))))) (fun _ _ _ _ _ => (pv 5)))
      (pss_cons (ps_set (i := 5) nd rfl (Or.inl rfl) (pe_ix ix_list (pv 4) (pe_call GD hr1 rfl gD kD bD .nil pass0 (pa_cons (pv 0) (pa_cons (pe_callB call_len_seq (by rfl) gLen PySem.boot_len (pa_cons (pv 4) pa_nil)) pa_nil))) (fun _ _ => rfl)))
      (pss_cons (ps_expr (pe_bm PySem.F.plainAttrs_list PySem.F.slot_list_append PySem.F.type_list_append mt_append (pe_dget hu (pv 2) pe_str (fun _ _ => rfl)) (pa_cons (pv 5) pa_nil)))
      (pss_cons (ps_set (i := 6) nd rfl (Or.inl rfl) (pe_ix ix_list (pv 1) (pv 5) (fun _ _ => rfl)))
      (pss_one (ps_expr (pe_bm PySem.F.plainAttrs_list PySem.F.slot_list_append PySem.F.type_list_append mt_append (pe_dget hu (pv 2) pe_str (fun _ _ => rfl)) (pa_cons (pe_op op_fdiv (pe_op op_mul (pe_dget hu (pv 6) pe_str (fun _ _ => rfl)) (pe_dget hu (pv 6) pe_str (fun _ _ => rfl))) (pe_dget hu (pv 2) pe_str (fun _ _ => rfl))) pa_nil)))))))))), ?_⟩
    have hsj := (hs.2.1.get ea)
    obtain ⟨s0, es0, hA⟩ := hsj
    rw [es] at es0
    cases es0
    have jl := (List.getElem?_eq_some_iff.mp es).1
    have nd2 := (List.nodup_cons.mp hs.2.2).2
    obtain ⟨ad1, ad2, ad3⟩ := apart1 nd2 ea
    obtain ⟨md, mt, mf⟩ := mem_flat (List.mem_of_getElem? ea)
    have npd : a.d ≠ p := fun z => np (z ▸ List.mem_cons_of_mem _ md)
    have npt : a.t ≠ p := fun z => np (z ▸ List.mem_cons_of_mem _ mt)
    have npf : a.f ≠ p := fun z => np (z ▸ List.mem_cons_of_mem _ mf)
    have lens := hs.2.1.len
    obtain ⟨j1, j12, j8⟩ := oks sj (List.mem_of_getElem? es)
    refine ⟨_, rfl, a.d, _, rfl, dg_more hA, _, rfl, by omega, by omega, ?_⟩
    rw [Int.toNat_natCast]
    refine for_range (fun i σ G => ∃ (w3 w4 w5 w6 w7 : Option V) (xs : List (Nat × Nat)), σ = [some (.ref p), some (.ref l), some (.ref a.d), w3, w4, w5, w6, w7] ∧ xs.length = i ∧ (∀ x ∈ xs, ∃ c, ss[x.1]? = some c ∧ mayF c sj = true ∧ x.2 = c.ct * c.gv / sj.ct) ∧ Shs G l as (ss.set j { sj with fd := sj.fd ++ xs.map Prod.fst, tk := sj.tk ++ xs.map Prod.snd }) ∧ PotAt G p ∧ KD (p :: l :: flat as) H G) ⟨_, _, _, _, _, [], rfl, rfl, fun _ h => (List.not_mem_nil h).elim, ?_, hp, KD.refl⟩ ?_ ?_
    · rw [List.map_nil, List.map_nil, List.append_nil, List.append_nil, set_same es]
      exact hs
    · rintro i σ G il ⟨w3, w4, w5, w6, w7, xs, rfl, xl, xok, hG, hpG, kG⟩
      obtain ⟨sx, esx⟩ : ∃ sx : Shp, sx = { sj with fd := sj.fd ++ xs.map Prod.fst, tk := sj.tk ++ xs.map Prod.snd } := ⟨_, rfl⟩
      rw [← esx] at hG
      have c1 : sx.ct = sj.ct := by rw [esx]
      have c2 : sx.gv = sj.gv := by rw [esx]
      have eSx : (ss.set j sx)[j]? = some sx := List.getElem?_set_self jl
      have hAx : ∀ {G' : Hp}, Shs G' l as (ss.set j sx) → ShAt G' a sx := fun h => by
        obtain ⟨z, ez, hz⟩ := h.2.1.get ea
        rw [eSx] at ez
        cases ez
        exact hz
      -- who may feed it
      refine ⟨_, rfl, l, _, rfl, SqL.of hG.1, fun D hD => ?_⟩
      refine lc_it (walk_enum (xs := as.map fun a => V.ref a.d)) (fun j2 H' => (∃ ks : List Nat, H' D = some (.lst (ks.map natV)) ∧ ks.length ≤ j2 ∧ (∀ k ∈ ks, ∃ c, ss[k]? = some c ∧ mayF c sj = true) ∧ ∀ k c, k < j2 → ss[k]? = some c → mayF c sj = true → k ∈ ks) ∧ Same G H') ⟨⟨[], upd_same, Nat.le_refl _, fun _ h => (List.not_mem_nil h).elim, fun _ _ h => absurd h (Nat.not_lt_zero _)⟩, Same.past (Same.refl _) hD⟩ (fun j2 H' _ e => SqL.of (e.2 _ _ hG.1)) (fun j2 v H' H'' hj2 e y => ?_) (fun H1 e => ?_)
      · obtain ⟨⟨ks, hk, kl, kin, kall⟩, sm⟩ := e
        obtain ⟨TT, x1, x2, rfl, hTT, rfl, e1, e2⟩ := y
        cases e1
        have e2 : (as.map fun a => V.ref a.d)[j2]? = some x2 := e2
        rw [List.getElem?_map] at e2
        obtain ⟨b, eb, rfl⟩ := Option.map_eq_some_iff.mp e2
        obtain ⟨cx, ecx, hb⟩ := hG.2.1.get eb
        obtain ⟨c, ec, q1, q2⟩ := set_at es c1 c2 ecx
        obtain ⟨o1, o2, o3⟩ := oks c (List.mem_of_getElem? ec)
        have sT := Same.new (o := .tup [V.int ((j2 : Nat) : Int), V.ref b.d]) (Same.refl H') hTT
        have sGT := sm.trans sT
        refine ⟨TT, _, rfl, .inl (.inl upd_same), rfl, _, _, rfl, _, _, rfl, rfl, rfl, ?_⟩
        generalize upd H' TT (.tup [V.int ((j2 : Nat) : Int), V.ref b.d]) = GT at sT sGT
        have hkT := sT _ _ hk
        have jl2 := (List.getElem?_eq_some_iff.mp eb).1
        have em : mayF cx sx = mayF c sj := mayF_congr q1 q2 c1
        refine ⟨_, rfl, _, rfl, b, a, cx, sx, rfl, hb.keep sGT, (hAx hG).keep sGT, by omega, by omega, by omega, by omega, _, rfl, ?_⟩
        rw [em]
        refine ite2 (fun z => ?_) (fun z => ?_)
        · refine ⟨_, rfl, _, hkT, ?_, ⟨ks ++ [j2], ?_, ?_, fun k hk => ?_, fun k c' hk' e' g' => ?_⟩, Same.past sGT hD⟩
          · rw [List.length_map]
            exact Nat.lt_of_lt_of_le (show ks.length < 100 by omega) (by decide)
          · rw [List.map_append]
            exact upd_same
          · rw [List.length_append]
            exact Nat.succ_le_succ kl
          · rcases List.mem_append.mp hk with hk | hk
            · exact kin k hk
            · rw [List.mem_singleton.mp hk]
              exact ⟨c, ec, z⟩
          · rcases Nat.lt_or_ge k j2 with h | h
            · exact List.mem_append_left _ (kall k c' h e' g')
            · have : k = j2 := by omega
              rw [this]
              exact List.mem_append_right _ List.mem_cons_self
        · refine ⟨⟨ks, hkT, by omega, kin, fun k c' hk' e' g' => ?_⟩, sGT⟩
          rcases Nat.lt_or_ge k j2 with h | h
          · exact kall k c' h e' g'
          · have : k = j2 := by omega
            subst this
            rw [ec] at e'
            cases e'
            exact absurd g' z
      obtain ⟨⟨ks, hk, kl, kin, kall⟩, s1⟩ := e
      rw [List.length_map] at kl kall
      have kne : ks ≠ [] := by
        obtain ⟨c, cm, g0⟩ := src (by omega)
        obtain ⟨i2, ei⟩ := List.getElem?_of_mem cm
        have := kall i2 c (by rw [lens]; exact (List.getElem?_eq_some_iff.mp ei).1) ei g0
        exact List.ne_nil_of_mem this
      have kpos := List.length_pos_iff.mpr kne
      have nDp := hpG.ne hD
      refine ⟨_, rfl, _, rfl, _, rfl, D, _, rfl, .inl (SqL.of hk), p, _, rfl, hpG.keep s1, by rw [List.length_map]; omega, by rw [List.length_map]; omega, fun e2 H2 d0 d1 k2 hp2 => ?_⟩
      obtain ⟨e2, rfl, e2l⟩ := nat_of d0 d1
      rw [List.length_map] at e2l
      have e2k : e2 < ks.length := by omega
      obtain ⟨at_, eat⟩ : ∃ a, ks[e2]? = some a := ⟨_, List.getElem?_eq_getElem e2k⟩
      obtain ⟨c, ec, cm⟩ := kin at_ (List.mem_of_getElem? eat)
      have hk2 := k2 _ _ nDp hk
      have K2 : Kept p G H2 := (Kept.same s1).trans k2
      refine ⟨D, _, _, natV at_, rfl, rfl, SqL.of hk2, atI_nat (j := e2) (by rw [List.getElem?_map, eat]; rfl), ?_⟩
      have hs2 := hG.kept K2 np
      have hA2 := hAx hs2
      have sf : sx.fd.length ≤ 200 := by
        rw [esx]
        show (sj.fd ++ xs.map Prod.fst).length ≤ 200
        rw [List.length_append, List.length_map]
        omega
      have stk : sx.tk.length ≤ 200 := by
        rw [esx]
        show (sj.tk ++ xs.map Prod.snd).length ≤ 200
        rw [List.length_append, List.length_map]
        omega
      -- one feed more
      refine ⟨_, rfl, a.d, _, rfl, dg_feeds hA2, .inl ⟨rfl, _, SqL.of hA2.2.2⟩, _, rfl, a.f, _, _, rfl, rfl, hA2.2.2, ?_, ?_⟩
      · rw [List.length_map]
        exact Nat.lt_of_le_of_lt sf (by decide)
      have hA3 : ShAt (upd H2 a.f (.lst (sx.fd.map natV ++ [natV at_]))) a { sx with fd := sx.fd ++ [at_] } := by
        refine ⟨?_, ?_, ?_⟩
        · rw [upd_ne ad2]
          exact hA2.1
        · rw [upd_ne ad3]
          exact hA2.2.1
        · rw [upd_same, List.map_append]
          rfl
      have hs3 := hs2.set ea hA3 (fun b o _ _ n3 e => by rw [upd_ne n3]; exact e)
      have hp3 : PotAt (upd H2 a.f (.lst (sx.fd.map natV ++ [natV at_]))) p := hp2.upd npf
      have k3 : KD (p :: l :: flat as) H (upd H2 a.f (.lst (sx.fd.map natV ++ [natV at_]))) := ((kG.trans (KD.kept K2 List.mem_cons_self))).upd (List.mem_cons_of_mem _ (List.mem_cons_of_mem _ mf))
      rw [List.set_set] at hs3
      generalize upd H2 a.f (.lst (sx.fd.map natV ++ [natV at_])) = H3 at hA3 hs3 hp3 k3
      obtain ⟨cz, ecz, q1, q2⟩ := set_to (s' := { sx with fd := sx.fd ++ [at_] }) es c1 c2 ec
      obtain ⟨b, eb, hb⟩ := hs3.2.1.get' ecz
      obtain ⟨o1, o2, o3⟩ := oks c (List.mem_of_getElem? ec)
      have ib : (as.map fun a => V.ref a.d)[at_]? = some (.ref b.d) := by rw [List.getElem?_map, eb]; rfl
      refine ⟨_, rfl, _, rfl, l, _, _, _, rfl, rfl, SqL.of hs3.1, atI_nat (j := at_) ib, ?_⟩
      refine ⟨_, rfl, a.d, _, rfl, dg_takes hA3, .inl ⟨rfl, _, SqL.of hA3.2.1⟩, _, rfl, b.d, _, rfl, dg_count hb, _, rfl, b.d, _, rfl, dg_gives hb, _, _, rfl, rfl, .inl ⟨by omega, by omega⟩, _, rfl, a.d, _, rfl, dg_count hA3, _, _, rfl, rfl, ⟨by show (0 : Int) < (sx.ct : Int); omega, by show (sx.ct : Int) < _; omega⟩, a.t, _, _, rfl, rfl, hA3.2.1, ?_, ?_⟩
      · rw [List.length_map]
        exact Nat.lt_of_le_of_lt stk (by decide)
      have ev : V.int ((cz.ct : Int) * (cz.gv : Int) / (sx.ct : Int)) = natV (c.ct * c.gv / sj.ct) := by
        unfold natV
        rw [q1, q2, c1]
        congr 1
      have hA4 : ShAt (upd H3 a.t (.lst (sx.tk.map natV ++ [V.int ((cz.ct : Int) * (cz.gv : Int) / (sx.ct : Int))]))) a { sx with fd := sx.fd ++ [at_], tk := sx.tk ++ [c.ct * c.gv / sj.ct] } := by
        refine ⟨?_, ?_, ?_⟩
        · rw [upd_ne ad1]
          exact hA3.1
        · rw [upd_same, ev, List.map_append]
          rfl
        · rw [upd_ne ad3.symm]
          exact hA3.2.2
      have hs4 := hs3.set ea hA4 (fun b o _ n2 _ e => by rw [upd_ne n2]; exact e)
      rw [List.set_set] at hs4
      refine ⟨_, _, _, _, _, xs ++ [(at_, c.ct * c.gv / sj.ct)], rfl, by rw [List.length_append, xl]; rfl, fun x hx => ?_, ?_, hp3.upd npt, k3.upd (List.mem_cons_of_mem _ (List.mem_cons_of_mem _ mt))⟩
      · rcases List.mem_append.mp hx with hx | hx
        · exact xok x hx
        · rw [List.mem_singleton.mp hx]
          exact ⟨c, ec, cm, rfl⟩
      · rw [List.map_append, List.map_append, ← List.append_assoc, ← List.append_assoc]
        rw [esx] at hs4 ⊢
        exact hs4
    · rintro σ G ⟨w3, w4, w5, w6, w7, xs, rfl, xl, xok, hG, hpG, kG⟩
      exact kk _ G ⟨xs, xl, rfl, xok⟩ hG hpG kG
end
end Sw
namespace Sw
open PySem PySem.Spec PyProof.Rows L2
/-! ### all shapes -/
theorem op_neDK {X : Cx} {K : PySem.W.Frag} (h : X.K = K) (hu : X.A.units + 64 < cLine) : OpR X (compareOp .NotEq) (rNeD K) := by
  subst h
  exact op_neD hu
/-- an inlet -/
def InlOk (s : Shp) : Prop := s.tk = [] ∧ s.fd = [] ∧ s.gv = 1 ∧ s.mo = 0 ∧ 1 ≤ s.ct ∧ s.ct ≤ 12 ∧ s.lb = none
/-- as they are made -/
def Made (ss : List Shp) : Prop := ∀ i s, ss[i]? = some s → InlOk s ∨ NewOk (ss.take i) s
theorem Made.few {ss : List Shp} (h : Made ss) : ∀ s ∈ ss, 1 ≤ s.ct ∧ s.ct ≤ 12 ∧ s.gv ≤ 8 ∧ s.mo ≤ 3 ∧ s.lb = none := fun s hs => by
  obtain ⟨i, ei⟩ := List.getElem?_of_mem hs
  rcases h i s ei with ⟨_, _, h3, h4, h5, h6, h7⟩ | ⟨_, _, _, _, _, _, _, _, _, _, h5, h6, h7, h8⟩
  · exact ⟨h5, h6, by omega, by omega, h7⟩
  · exact ⟨h5, h6, by omega, by omega, h8⟩
theorem Made.snoc {ss : List Shp} {s : Shp} (h : Made ss) (hs : InlOk s ∨ NewOk ss s) : Made (ss ++ [s]) := fun i s' e => by
  rcases Nat.lt_or_ge i ss.length with q | q
  · rw [List.getElem?_append_left q] at e
    rcases h i s' e with z | z
    · exact .inl z
    · rw [List.take_append_of_le_length (Nat.le_of_lt q)]
      exact .inr z
  · rw [List.getElem?_append_right q] at e
    have il : i - ss.length = 0 := by
      have := (List.getElem?_eq_some_iff.mp e).1
      simpa using this
    rw [il] at e
    cases e
    have : i = ss.length := by omega
    rw [this, List.take_left]
    exact hs
theorem flat_snoc (as : List Ad) (a : Ad) : flat (as ++ [a]) = flat as ++ [a.d, a.t, a.f] := by
  unfold flat
  rw [List.flatMap_append]
  rfl
theorem Shs.some {H : Hp} {l : Addr} {as : List Ad} {ss : List Shp} (h : Shs H l as ss) : ∀ b ∈ l :: flat as, H b ≠ none := fun b hb z => by
  rcases List.mem_cons.mp hb with rfl | hb
  · rw [h.1] at z
    cases z
  · obtain ⟨a, ha, hb⟩ := List.mem_flatMap.mp hb
    obtain ⟨i, ei⟩ := List.getElem?_of_mem ha
    obtain ⟨s, _, h1, h2, h3⟩ := h.2.1.get ei
    simp only [List.mem_cons, List.not_mem_nil, or_false] at hb
    rcases hb with rfl | rfl | rfl
    · rw [h1] at z; cases z
    · rw [h2] at z; cases z
    · rw [h3] at z; cases z
theorem NewA.off {H : Hp} {l : Addr} {as : List Ad} {ss : List Shp} {a : Ad} (h : Shs H l as ss) (n : NewA H a) : a.d ∉ l :: flat as ∧ a.t ∉ l :: flat as ∧ a.f ∉ l :: flat as :=
  ⟨fun m => h.some _ m n.1, fun m => h.some _ m n.2.1, fun m => h.some _ m n.2.2.1⟩
/-- one more is put in the list -/
theorem Shs.snoc {H H' : Hp} {l : Addr} {as : List Ad} {ss : List Shp} {a : Ad} {s : Shp} (h0 : Shs H l as ss) (n : NewA H a) (h : Shs H' l as ss) (hs : ShAt H' a s) : Shs (L2.upd H' l (.lst ((as.map fun a => V.ref a.d) ++ [.ref a.d]))) l (as ++ [a]) (ss ++ [s]) := by
  obtain ⟨o1, o2, o3⟩ := NewA.off h0 n
  obtain ⟨_, _, _, n1, n2, n3⟩ := n
  have nl := (List.nodup_cons.mp h.2.2).1
  refine ⟨by rw [upd_same, List.map_append]; rfl, ?_, ?_⟩
  · refine Al.snoc (hs.at fun b hb o e => ?_) (h.2.1.impM fun a' s' ha hs' => hs'.at fun b hb o e => ?_)
    · rw [upd_ne]
      · exact e
      · rintro rfl
        rcases hb with q | q | q
        · exact o1 (q ▸ List.mem_cons_self)
        · exact o2 (q ▸ List.mem_cons_self)
        · exact o3 (q ▸ List.mem_cons_self)
    · obtain ⟨m1, m2, m3⟩ := mem_flat ha
      rw [upd_ne]
      · exact e
      · rintro rfl
        rcases hb with q | q | q
        · exact nl (q ▸ m1)
        · exact nl (q ▸ m2)
        · exact nl (q ▸ m3)
  · rw [flat_snoc, ← List.cons_append]
    refine List.nodup_append.mpr ⟨h.2.2, ?_, fun x hx y hy z => ?_⟩
    · refine List.nodup_cons.mpr ⟨?_, List.nodup_cons.mpr ⟨?_, List.nodup_cons.mpr ⟨List.not_mem_nil, List.nodup_nil⟩⟩⟩
      · intro m
        simp only [List.mem_cons, List.not_mem_nil, or_false] at m
        exact m.elim n1 n2
      · intro m
        simp only [List.mem_cons, List.not_mem_nil, or_false] at m
        exact n3 m
    · subst z
      simp only [List.mem_cons, List.not_mem_nil, or_false] at hy
      rcases hy with rfl | rfl | rfl
      · exact o1 hx
      · exact o2 hx
      · exact o3 hx
theorem three_at {d : Int} (h0 : 0 ≤ d) (h3 : d < 3) : ∃ m : Nat, atI [V.int 2, V.int 6, V.int 12] d = some (.int (m : Int)) ∧ m ≤ 12 := by
  have : d = 0 ∨ d = 1 ∨ d = 2 := by omega
  rcases this with rfl | rfl | rfl
  · exact ⟨2, rfl, by decide⟩
  · exact ⟨6, rfl, by decide⟩
  · exact ⟨12, rfl, by decide⟩
/-- what stands while shapes are made -/
structure Mk1 (H H' : Hp) (p l : Addr) (as : List Ad) (ss : List Shp) : Prop where
  sh : Shs H' l as ss
  md : Made ss
  first : 0 < ss.length → ∃ s, ss[0]? = some s ∧ InlOk s
  new : ∀ b ∈ l :: flat as, H b = none
  ke : Kept p H H'
  pt : PotAt H' p
theorem Mk1.np {H H' : Hp} {p l : Addr} {as : List Ad} {ss : List Shp} (h : Mk1 H H' p l as ss) (hp : PotAt H p) : p ∉ l :: flat as := fun m => hp.ne (h.new p m) rfl
theorem Mk1.snoc {H H1 H2 : Hp} {p l : Addr} {as : List Ad} {ss : List Shp} {a : Ad} {s : Shp} (h : Mk1 H H1 p l as ss) (hp : PotAt H p) (nw : NewA H1 a) (k : Kept p H1 H2) (hp2 : PotAt H2 p) (sa : ShAt H2 a s) (hs : InlOk s ∨ NewOk ss s) (f : ss = [] → InlOk s) : Mk1 H (L2.upd H2 l (.lst ((as.map fun a => V.ref a.d) ++ [.ref a.d]))) p l (as ++ [a]) (ss ++ [s]) := by
  have np := h.np hp
  have nl := h.new l List.mem_cons_self
  refine ⟨h.sh.snoc nw (h.sh.kept k np) sa, h.md.snoc hs, fun _ => ?_, fun b hb => ?_, (h.ke.trans k).past nl, hp2.upd (hp.ne nl)⟩
  · cases ss with
    | nil => exact ⟨s, rfl, f rfl⟩
    | cons c r =>
      obtain ⟨c', e, i⟩ := h.first (by simp)
      exact ⟨c', e, i⟩
  · rw [flat_snoc, ← List.cons_append] at hb
    rcases List.mem_append.mp hb with hb | hb
    · exact h.new b hb
    · simp only [List.mem_cons, List.not_mem_nil, or_false] at hb
      rcases hb with rfl | rfl | rfl
      · exact h.ke.free h.pt nw.1
      · exact h.ke.free h.pt nw.2.1
      · exact h.ke.free h.pt nw.2.2.1
/-- a shape behind the feeding -/
def Grown (ss : List Shp) (c s : Shp) : Prop := c.ct = s.ct ∧ c.gv = s.gv ∧ c.lb = s.lb ∧ ∃ xs : List (Nat × Nat), xs.length ≤ s.mo ∧ c.fd = s.fd ++ xs.map Prod.fst ∧ c.tk = s.tk ++ xs.map Prod.snd ∧ ∀ x ∈ xs, ∃ c0, ss[x.1]? = some c0 ∧ mayF c0 s = true ∧ x.2 = c0.ct * c0.gv / s.ct
def fdSum (cs : List Shp) : Nat := (cs.map fun c => c.fd.length).sum
theorem fdSum_set : ∀ {cs : List Shp} {j : Nat} {s s' : Shp}, cs[j]? = some s → fdSum (cs.set j s') + s.fd.length = fdSum cs + s'.fd.length
  | [], _, _, _, h => by simp at h
  | c :: cs, 0, s, s', h => by
    have : c = s := by simpa using h
    subst this
    show (s'.fd.length + fdSum cs) + c.fd.length = (c.fd.length + fdSum cs) + s'.fd.length
    omega
  | c :: cs, j + 1, s, s', h => by
    have ih := fdSum_set (cs := cs) (j := j) (s := s) (s' := s') (by simpa using h)
    show (c.fd.length + fdSum (cs.set j s')) + s.fd.length = (c.fd.length + fdSum cs) + s'.fd.length
    omega
theorem fdSum_snoc (cs : List Shp) (s : Shp) : fdSum (cs ++ [s]) = fdSum cs + s.fd.length := by
  unfold fdSum
  rw [List.map_append, List.sum_append]
  rfl
theorem Made.fd1 {ss : List Shp} (h : Made ss) : ∀ s ∈ ss, s.fd.length ≤ 1 ∧ s.tk.length ≤ 1 := fun s hs => by
  obtain ⟨i, ei⟩ := List.getElem?_of_mem hs
  rcases h i s ei with ⟨h1, h2, _⟩ | ⟨_, _, _, _, _, h1, h2, _⟩
  · rw [h1, h2]
    exact ⟨Nat.zero_le _, Nat.zero_le _⟩
  · rw [h1, h2]
    exact ⟨Nat.le_refl _, Nat.le_refl _⟩
theorem fdSum_le {ss : List Shp} (h : ∀ s ∈ ss, s.fd.length ≤ 1) : fdSum ss ≤ ss.length := by
  induction ss with
  | nil => exact Nat.le_refl _
  | cons c r ih =>
    have h1 := h c List.mem_cons_self
    have h2 := ih fun s hs => h s (List.mem_cons_of_mem _ hs)
    show c.fd.length + fdSum r ≤ r.length + 1
    omega
theorem NewOk.may {ss : List Shp} {s : Shp} (h : NewOk ss s) : ∃ (i : Nat) (c : Shp), ss[i]? = some c ∧ mayF c s = true := by
  obtain ⟨i, c, r, e, g, _, _, r1, r8, rc, c1, _, _, _⟩ := h
  refine ⟨i, c, e, decide_eq_true ⟨?_, ?_, ?_⟩⟩
  · rw [← rc]
    exact Nat.mul_pos (by omega) (by omega)
  · rw [← rc]
    exact Nat.mul_mod_left _ _
  · rw [← rc, Nat.mul_div_cancel _ (by omega)]
    exact r8
theorem Kept.kd {p : Addr} {H G G' : Hp} {D : List Addr} (k : Kept p H G) (d : KD D G G') (n : ∀ b ∈ D, b = p ∨ H b = none) : Kept p H G' := fun b o nb e => d b o (fun m => by
  rcases n b m with z | z
  · exact nb z
  · rw [z] at e
    cases e) (k b o nb e)
theorem Al.setL {α β : Type} {R : α → β → Prop} : ∀ {as : List α} {bs : List β} {j : Nat} {a' : α} {b : β}, Al R as bs → bs[j]? = some b → R a' b → Al R (as.set j a') bs
  | [], [], _, _, _, _, h, _ => by simp at h
  | a :: as, b :: bs, 0, a', b', h, e, r => by
    have : b = b' := by simpa using e
    subst this
    exact ⟨r, h.2⟩
  | a :: as, b :: bs, j + 1, a', b', h, e, r => ⟨h.1, Al.setL h.2 (by simpa using e) r⟩
  | [], _ :: _, _, _, _, h, _, _ => h.elim
  | _ :: _, [], _, _, _, h, _, _ => h.elim
theorem grown_refl {ss0 : List Shp} : ∀ ss : List Shp, Al (Grown ss0) ss ss
  | [] => trivial
  | s :: r => ⟨⟨rfl, rfl, rfl, [], Nat.zero_le _, by simp, by simp, fun _ h => (List.not_mem_nil h).elim⟩, grown_refl r⟩
def spShapes : Sp := fun vs H Q _ => ∃ p : Addr, vs = [.ref p] ∧ PotAt H p ∧ ∀ (l : Addr) (as : List Ad) (ss cs : List Shp) (H' : Hp), Made ss → (∃ s, ss[0]? = some s ∧ InlOk s) → ss.length ≤ 15 → Al (Grown ss) cs ss → fdSum cs ≤ 48 → Shs H' l as cs → (∀ b ∈ l :: flat as, H b = none) → Kept p H H' → PotAt H' p → Q (.ref l) H'
section
variable {P : Program} {w : World} {K : PySem.W.Frag} {mg : Str → Option Value} {base : Heap} {f f1 f2 f3 f4 f5 f6 f7 f8 f9 C CN CO CI CW dd : Addr} {cl : Srt → Addr} {fd fd1 fd2 fd3 fd4 fd5 fd6 fd7 fd8 fd9 : FuncData}
abbrev nLShapes : List Str := ["_law_pot_here", "_law_shapes_here", "_law_k", "_law_room", "_law_one"]
theorem scLShapes : FnScope nLShapes ["_law_pot_here"] (defScope sLShapes) := ⟨rfl, rfl, rfl, by decide +kernel, rfl, by decide +kernel, by decide +kernel⟩
theorem ok_shapes (F : FnP K "_law_shapes" sLShapes f fd) (GD : FnOk P w K mg base CX0 1 f1 fd1 ["_law_pot_here", "_law_many"] spDigit) (gD : mg "_law_digit" = some (.ref f1)) (kD : PySem.W.keepIn K (.ref f1) = true) (bD : Binds K fd1 ["_law_pot_here", "_law_many"] [])
    (GI : FnOk P w K mg base CX0 2 f2 fd2 ["_law_pot_here"] spInlet) (gI : mg "_law_inlet" = some (.ref f2)) (kI : PySem.W.keepIn K (.ref f2) = true) (bI : Binds K fd2 ["_law_pot_here"] [])
    (GS : FnOk P w K mg base CX0 2 f3 fd3 ["_law_pot_here", "_law_shapes_here"] spShape) (gS : mg "_law_shape" = some (.ref f3)) (kSh : PySem.W.keepIn K (.ref f3) = true) (bS : Binds K fd3 ["_law_pot_here", "_law_shapes_here"] [])
    (GF : FnOk P w K mg base CX0 2 f4 fd4 ["_law_pot_here", "_law_shapes_here", "_law_one"] spFeed) (gF : mg "_law_feed" = some (.ref f4)) (kF : PySem.W.keepIn K (.ref f4) = true) (bF : Binds K fd4 ["_law_pot_here", "_law_shapes_here", "_law_one"] [])
    (gRange : mg "range" = none) (gLen : mg "len" = none) (gMin : mg "min" = none) : FnOk P w K mg base CX0 3 f fd ["_law_pot_here"] spShapes := by
  refine F.ok scLShapes (fun vs H Q E h => ?_) (fun cdv A ou s H vs Q E hr h => ?_)
  · obtain ⟨p, rfl, _⟩ := h
    rfl
  · obtain ⟨p, rfl, hp, kk⟩ := h
    have nd := scLShapes.nd
    have hr2 : Room 2 _ := hr
    have hr1 : Room 1 _ := hr.mono (by decide)
    have hu := hu_of hr
    have hu6 := hr.units
    refine ⟨_, PSs.nox (pss_cons (ps_setLc (i := 1) (own := [("_law_k", 2)]) (g := (gName 2)) (tt := tYes) rfl nd rfl rfl (sw_true rfl rfl rfl rfl) (pi_range1 rfl gRange (pa_cons (pe_op op_add pe_int (pe_call GD hr1 rfl gD kD bD .nil pass0 (pa_cons (pv 0) (pa_cons pe_int pa_nil)))) pa_nil)) (blkOk_by (N := nLShapes) (sc := defScope sLShapes) (by decide +kernel))
        (fun _ _ _ _ _ => (pg_name (i := 2) nd rfl (Or.inl rfl))) (fun _ _ _ _ _ => pts_nil) (fun _ _ _ _ _ => (pe_call GI hr2 rfl gI kI bI .nil pass0 (pa_cons (pv 0) pa_nil))))
      (pss_cons (ps_for PassesOwn.never rfl (pi_range1 rfl gRange (pa_cons (pe_ix ix_list (pe_lst (pa_cons pe_int (pa_cons pe_int (pa_cons pe_int pa_nil)))) (pe_call GD hr1 rfl gD kD bD .nil pass0 (pa_cons (pv 0) (pa_cons pe_int pa_nil))) (fun _ _ => rfl)) pa_nil)) (pg_name (i := 2) nd rfl (Or.inl rfl))
      (pss_one (ps_expr (pe_bm PySem.F.plainAttrs_list PySem.F.slot_list_append PySem.F.type_list_append mt_append (pv 1) (pa_cons (pe_call GS hr2 rfl gS kSh bS .nil pass0 (pa_cons (pv 0) (pa_cons (pv 1) pa_nil))) pa_nil)))))
      (pss_cons (ps_set (i := 3) nd rfl (Or.inl rfl) (pe_op op_sub pe_int (pe_callB call_len_seq (by rfl) gLen PySem.boot_len (pa_cons (pe_lc (own := [("_law_one", 4)]) (g := (gName 4)) (tt := _) rfl nd (pi_list (pv 1)) (blkOk_by (N := nLShapes) (sc := defScope sLShapes) (by decide +kernel))
        (fun _ _ _ _ _ => (pg_name (i := 4) nd rfl (Or.inl rfl))) (fun _ _ _ _ _ => (pts_one (pt_cmpR (op_neDK (K := K) rfl hu6) (pe_dget hu (pv 4) pe_str (fun _ _ => rfl)) (pe_lst pa_nil) (nomark _)))) (fun _ _ _ _ _ => (pv 4))) pa_nil))))
      (pss_cons (ps_for PassesOwn.never rfl (pi_list (pv 1)) (pg_name (i := 4) nd rfl (Or.inl rfl))
      (pss_cons (ps_dput hu (pv 4) pe_str (pe_callB (call_min2 rfl) (by rfl) gMin (by decide +kernel) (pa_cons (pe_dget hu (pv 4) pe_str (fun _ _ => rfl)) (pa_cons (pv 3) pa_nil))) rfl)
      (pss_cons (ps_set (i := 3) nd rfl (Or.inl rfl) (pe_op op_sub (pv 3) (pe_dget hu (pv 4) pe_str (fun _ _ => rfl))))
      (pss_one (ps_expr (pe_call GF hr2 rfl gF kF bF .nil pass0 (pa_cons (pv 0) (pa_cons (pv 1) (pa_cons (pv 4) pa_nil)))))))))
      (pss_one (ps_ret (pv 1))))))), ?_⟩
    refine ⟨_, rfl, p, _, rfl, hp, by decide, by decide, fun e H1 d0 d1 k1 hp1 => ⟨_, _, rfl, rfl, ?_⟩⟩
    obtain ⟨n1, rfl, n1l⟩ := nat_of d0 d1
    refine ⟨_, rfl, by omega, by omega, fun l hl => ?_⟩
    have en : ((1 : Int) + (n1 : Int)).toNat = n1 + 1 := by omega
    rw [en]
    have lH := k1.free hp1 hl
    have nlp := hp1.ne hl
    have k1' : Kept p H (upd H1 l (.lst [])) := k1.past lH
    refine lc_range (fun i H' => ∃ as ss, Mk1 H H' p l as ss ∧ ss.length = i ∧ (∀ s ∈ ss, InlOk s)) ⟨[], [], ⟨⟨upd_same, trivial, List.nodup_cons.mpr ⟨List.not_mem_nil, List.nodup_nil⟩⟩, fun i s e => (by simp at e), fun h => absurd h (Nat.lt_irrefl _), fun b hb => ?_, k1', hp1.upd nlp⟩, rfl, fun _ h => (List.not_mem_nil h).elim⟩ (fun i H' hi e => ?_) (fun H2 e => ?_)
    · rw [List.mem_singleton.mp hb]
      exact lH
    · obtain ⟨as, ss, mk, sl, inl⟩ := e
      refine ⟨rfl, yes_ite ?_⟩
      refine ⟨_, rfl, p, rfl, mk.pt, fun a ct H3 nw k3 hp3 c1 c12 sa => ?_⟩
      have io : InlOk ⟨ct, 1, [], [], 0, none⟩ := ⟨rfl, rfl, rfl, rfl, c1, c12, rfl⟩
      refine ⟨_, (mk.sh.kept k3 (mk.np hp)).1, ?_, as ++ [a], ss ++ [⟨ct, 1, [], [], 0, none⟩], mk.snoc hp nw k3 hp3 sa (.inl io) (fun _ => io), by rw [List.length_append, sl]; rfl, fun s hs => ?_⟩
      · rw [List.length_map, mk.sh.2.1.len]
        exact Nat.lt_of_lt_of_le (show ss.length < 100 by omega) (by decide)
      · rcases List.mem_append.mp hs with hs | hs
        · exact inl s hs
        · rw [List.mem_singleton.mp hs]
          exact io
    obtain ⟨as, ss, mk, sl, inl⟩ := e
    -- the others
    refine ⟨(by show 3 ≤ sizeLine; decide), fun q hq => ?_⟩
    have s3 := Same.new (o := .lst [V.int 2, V.int 6, V.int 12]) (Same.refl H2) hq
    have g3 : upd H2 q (.lst [V.int 2, V.int 6, V.int 12]) q = some (.lst [V.int 2, V.int 6, V.int 12]) := upd_same
    have nqp := mk.pt.ne hq
    generalize upd H2 q (.lst [V.int 2, V.int 6, V.int 12]) = H3 at s3 g3
    refine ⟨_, rfl, p, _, rfl, mk.pt.keep s3, by decide, by decide, fun e4 H4 d0 d1 k4 hp4 => ?_⟩
    obtain ⟨N, em, N12⟩ := three_at d0 d1
    refine ⟨q, _, _, _, rfl, rfl, SqL.of (k4 _ _ nqp g3), em, _, rfl, by omega, by omega, ?_⟩
    rw [Int.toNat_natCast]
    have k24 : Kept p H2 H4 := (Kept.same s3).trans k4
    have mk4 : Mk1 H H4 p l as ss := ⟨mk.sh.kept k24 (mk.np hp), mk.md, mk.first, mk.new, mk.ke.trans k24, hp4⟩
    refine for_range (fun i σ G => ∃ (w2 : Option V) (as : List Ad) (ss : List Shp), σ = [some (.ref p), some (.ref l), w2, none, none] ∧ Mk1 H G p l as ss ∧ ss.length = n1 + 1 + i) ⟨_, as, ss, rfl, mk4, sl⟩ ?_ ?_
    · rintro i σ G il ⟨w2, as, ss, rfl, mk, sl⟩
      obtain ⟨s0, es0, io0⟩ := mk.first (by omega)
      refine ⟨_, rfl, .inl ⟨rfl, _, SqL.of mk.sh.1⟩, _, rfl, _, rfl, p, l, as, ss, rfl, mk.pt, mk.sh, mk.np hp, by omega, fun s hs => ⟨(mk.md.few s hs).1, (mk.md.few s hs).2.1, (mk.md.few s hs).2.2.1⟩, ⟨s0, List.mem_of_getElem? es0, by rw [io0.2.2.1]; decide⟩, fun a s G2 nw k2 hp2 no sa => ?_⟩
      refine ⟨l, _, _, rfl, rfl, (mk.sh.kept k2 (mk.np hp)).1, ?_, _, as ++ [a], ss ++ [s], rfl, mk.snoc hp nw k2 hp2 sa (.inr no) (fun z => ?_), by rw [List.length_append, sl]; rfl⟩
      · rw [List.length_map, mk.sh.2.1.len]
        exact Nat.lt_of_lt_of_le (show ss.length < 100 by omega) (by decide)
      · rw [z] at es0
        cases es0
    · rintro σ G ⟨w2, as, ss, rfl, mk, sl⟩
      have lens := mk.sh.2.1.len
      have sl15 : ss.length ≤ 15 := by omega
      have fd1 := mk.md.fd1
      -- the room
      refine ⟨_, rfl, l, rfl, ⟨_, SqL.of mk.sh.1⟩, fun D hD => ?_⟩
      refine lc_list (xs := as.map fun a => V.ref a.d) (fun j H' => (∃ vs, H' D = some (.lst vs) ∧ vs.length = fdSum (ss.take j)) ∧ Same G H') ⟨⟨[], upd_same, by rw [List.take_zero]; rfl⟩, Same.past (Same.refl _) hD⟩ (fun j H' _ e => SqL.of (e.2 _ _ mk.sh.1)) (fun j v H' ev e => ?_) (fun G2 e => ?_)
      · obtain ⟨⟨vs, hv, vl⟩, sm⟩ := e
        rw [List.getElem?_map] at ev
        obtain ⟨a, ea, rfl⟩ := Option.map_eq_some_iff.mp ev
        obtain ⟨s, es, ha⟩ := mk.sh.2.1.get ea
        have jl := (List.getElem?_eq_some_iff.mp es).1
        have haG := ha.keep sm
        have vle : vs.length ≤ 15 := by
          rw [vl]
          refine Nat.le_trans (fdSum_le fun s hs => (fd1 s (List.mem_of_mem_take hs)).1) ?_
          rw [List.length_take]
          omega
        refine ⟨rfl, ?_⟩
        refine ⟨_, rfl, a.d, _, rfl, dg_feeds haG, (by show 0 ≤ sizeLine; decide), fun l0 h0 => ?_⟩
        have s0 := Same.new (o := .lst []) (Same.refl H') h0
        have g0 : upd H' l0 (.lst []) l0 = some (.lst []) := upd_same
        generalize upd H' l0 (.lst []) = H'' at s0 g0
        have tk1 : fdSum (ss.take (j + 1)) = fdSum (ss.take j) + s.fd.length := by
          rw [List.take_succ, es]
          exact fdSum_snoc _ _
        have hf := (s0 _ _ haG.2.2)
        have fdl := (fd1 s (List.mem_of_getElem? es)).1
        cases z : s.fd with
        | nil =>
          rw [z] at hf tk1
          refine ⟨.list [], .list [], .lst (SqL.of hf) .nil, .lst (SqL.of g0) .nil, rfl, rfl, _, rfl, iteF_ rfl ?_⟩
          exact ⟨⟨vs, s0 _ _ hv, by rw [tk1, vl]; rfl⟩, sm.trans s0⟩
        | cons x r =>
          have r0 : r = [] := by
            rw [z] at fdl
            simpa using fdl
          subst r0
          rw [z] at hf tk1
          refine ⟨.list [natD x], .list [], .lst (SqL.of hf) (.cons (.int _) .nil), .lst (SqL.of g0) .nil, rfl, rfl, _, rfl, iteT_ rfl ?_⟩
          refine ⟨_, rfl, _, s0 _ _ hv, ?_, ⟨_, upd_same, by rw [List.length_append, tk1, vl]; rfl⟩, Same.past (sm.trans s0) hD⟩
          exact Nat.lt_of_lt_of_le (show vs.length < 100 by omega) (by decide)
      obtain ⟨⟨vs, hv, vl⟩, s2⟩ := e
      rw [List.length_map, lens, List.take_length] at vl
      refine ⟨D, _, rfl, .inl (SqL.of hv), _, _, rfl, rfl, ?_⟩
      have vle : fdSum ss ≤ 15 := Nat.le_trans (fdSum_le fun s hs => (fd1 s hs).1) sl15
      have er : (48 : Int) - (vs.length : Int) = ((48 - fdSum ss : Nat) : Int) := by omega
      dsimp only [gName]
      rw [er]
      have k2 : Kept p G G2 := Kept.same s2
      have mk2 : Mk1 H G2 p l as ss := ⟨mk.sh.keep s2, mk.md, mk.first, mk.new, mk.ke.trans k2, mk.pt.keep s2⟩
      have np := mk.np hp
      refine ⟨_, rfl, l, rfl, ⟨_, SqL.of mk2.sh.1⟩, ?_⟩
      refine for_list (xs := as.map fun a => V.ref a.d) (fun j σ G => ∃ (w2 w4 : Option V) (room : Nat) (cs : List Shp), σ = [some (.ref p), some (.ref l), w2, some (.int (room : Int)), w4] ∧ Shs G l as cs ∧ Al (Grown ss) cs ss ∧ (∀ i, j ≤ i → cs[i]? = ss[i]?) ∧ fdSum cs + room = 48 ∧ Kept p H G ∧ PotAt G p) ⟨_, _, 48 - fdSum ss, ss, rfl, mk2.sh, ?_, fun _ _ => rfl, by omega, mk2.ke, mk2.pt⟩ (fun j σ G _ e => by obtain ⟨_, _, _, _, _, h, _⟩ := e; exact SqL.of h.1) ?_ ?_
      · exact grown_refl ss
      · rintro j v σ G5 ev ⟨w2, w4, room, cs, rfl, hG, gr, same, sum, kG, hpG⟩
        rw [List.getElem?_map] at ev
        obtain ⟨a, ea, rfl⟩ := Option.map_eq_some_iff.mp ev
        obtain ⟨s, es, _⟩ := mk.sh.2.1.get ea
        have ecs : cs[j]? = some s := by rw [same j (Nat.le_refl _)]; exact es
        have hA : ShAt G5 a s := by
          obtain ⟨z, ez, hz⟩ := hG.2.1.get ea
          rw [ecs] at ez
          cases ez
          exact hz
        have csl : cs.length = ss.length := gr.len
        obtain ⟨f1, f2, f3, f4, f5⟩ := mk.md.few s (List.mem_of_getElem? es)
        obtain ⟨md, mt, mf⟩ := mem_flat (List.mem_of_getElem? ea)
        have nd2 := (List.nodup_cons.mp hG.2.2).2
        obtain ⟨ad1, ad2, ad3⟩ := apart1 nd2 ea
        have npd : a.d ≠ p := fun z => np (z ▸ List.mem_cons_of_mem _ md)
        obtain ⟨m, em⟩ : ∃ m, m = min s.mo room := ⟨_, rfl⟩
        have mv : V.int (if (room : Int) < (s.mo : Int) then (room : Int) else (s.mo : Int)) = natV m := by
          unfold natV
          congr 1
          split <;> omega
        have new2 : ∀ b ∈ p :: l :: flat as, b = p ∨ H b = none := fun b hb => by
          rcases List.mem_cons.mp hb with h | h
          · exact .inl h
          · exact .inr (mk.new b h)
        refine ⟨_, rfl, a.d, _, rfl, dg_more hA, _, rfl, _, _, rfl, ?_⟩
        rw [mv]
        refine ⟨_, rfl, a.d, _, rfl, DPut.k (k := kS "more") hA.1 (Nat.lt_of_le_of_lt sh_len (by decide)), ?_⟩
        rw [put_more]
        have hA1 : ShAt (upd G5 a.d (.dK (shKV { s with mo := m } a))) a { s with mo := m } := ⟨upd_same, by rw [upd_ne ad1.symm]; exact hA.2.1, by rw [upd_ne ad2.symm]; exact hA.2.2⟩
        have hs1 := hG.set ea hA1 (fun b o n1 _ _ e => by rw [upd_ne n1]; exact e)
        have hp1 : PotAt (upd G5 a.d (.dK (shKV { s with mo := m } a))) p := hpG.upd npd
        have k1 : Kept p H (upd G5 a.d (.dK (shKV { s with mo := m } a))) := kG.kd (KD.refl.upd (q := a.d) (D := p :: l :: flat as) (List.mem_cons_of_mem _ (List.mem_cons_of_mem _ md))) new2
        generalize upd G5 a.d (.dK (shKV { s with mo := m } a)) = G6 at hA1 hs1 hp1 k1
        refine ⟨_, rfl, _, rfl, a.d, _, rfl, dg_more hA1, _, _, rfl, rfl, ?_⟩
        have jl := (List.getElem?_eq_some_iff.mp ecs).1
        have e1 : (cs.set j { s with mo := m })[j]? = some { s with mo := m } := List.getElem?_set_self jl
        have cg : ∀ (i : Nat) (c' : Shp), (cs.set j { s with mo := m })[i]? = some c' → ∃ c0, ss[i]? = some c0 ∧ c'.ct = c0.ct ∧ c'.gv = c0.gv := fun i c' e => by
          obtain ⟨c1, e1, q1, q2⟩ := set_at (s' := { s with mo := m }) ecs rfl rfl e
          obtain ⟨c0, e0, g1, g2, _⟩ := gr.get e1
          exact ⟨c0, e0, q1.trans g1, q2.trans g2⟩
        have fd1' := fd1 s (List.mem_of_getElem? es)
        refine ⟨_, rfl, _, rfl, _, rfl, p, l, as, cs.set j { s with mo := m }, j, a, { s with mo := m }, rfl, hp1, hs1, np, by rw [List.length_set]; omega, fun c' hc' => ?_, ea, e1, fun m0 => ?_, by show m ≤ 100; omega, by show s.tk.length ≤ 100; omega, by show s.fd.length ≤ 100; omega, fun s' G7 fo hs7 hp7 k7 => ?_⟩
        · obtain ⟨i, ei⟩ := List.getElem?_of_mem hc'
          obtain ⟨c0, e0, q1, q2⟩ := cg i c' ei
          obtain ⟨z1, z2, z3, _⟩ := mk.md.few c0 (List.mem_of_getElem? e0)
          exact ⟨by omega, by omega, by omega⟩
        · have m0 : 0 < m := m0
          rcases mk.md j s es with io | no
          · have := io.2.2.2.1
            omega
          · obtain ⟨i, c0, e0, my⟩ := no.may
            rw [List.getElem?_take] at e0
            split at e0
            · rename_i ij
              have ec0 : ∃ c1, cs[i]? = some c1 := ⟨_, List.getElem?_eq_getElem (by have := (List.getElem?_eq_some_iff.mp e0).1; omega)⟩
              obtain ⟨c1, e1'⟩ := ec0
              obtain ⟨c0', e0', g1, g2, _⟩ := gr.get e1'
              rw [e0] at e0'
              cases e0'
              refine ⟨c1, List.mem_of_getElem? (i := i) (by rw [List.getElem?_set_ne (by omega)]; exact e1'), ?_⟩
              rw [mayF_congr g1 g2 (s := s) (s' := { s with mo := m }) rfl]
              exact my
            · cases e0
        · rw [List.set_set] at hs7
          obtain ⟨xs, xl, es', xok⟩ := fo
          have xl : xs.length = m := xl
          have es' : s' = { s with mo := m, fd := s.fd ++ xs.map Prod.fst, tk := s.tk ++ xs.map Prod.snd } := es'
          have er2 : ((room : Int) - (m : Int)) = ((room - m : Nat) : Int) := by omega
          refine ⟨w2, some (V.ref a.d), room - m, cs.set j s', ?_, hs7, ?_, fun i hi => ?_, ?_, k1.kd k7 new2, hp7⟩
          · show [some (V.ref p), some (V.ref l), w2, some (V.int ((room : Int) - (m : Int))), some (V.ref a.d)] = _
            rw [er2]
          · refine gr.setL es ⟨by rw [es'], by rw [es'], by rw [es'], xs, by omega, by rw [es'], by rw [es'], fun x hx => ?_⟩
            obtain ⟨c, ec, my, x2⟩ := xok x hx
            obtain ⟨c0, e0, q1, q2⟩ := cg x.1 c ec
            refine ⟨c0, e0, ?_, ?_⟩
            · rw [mayF_congr (s := s) (s' := { s with mo := m }) q1 q2 rfl] at my
              exact my
            · rw [x2, q1, q2]
          · rw [List.getElem?_set_ne (by omega)]
            exact same i (by omega)
          · have := fdSum_set (s' := s') ecs
            have fl : s'.fd.length = s.fd.length + m := by
              rw [es']
              show (s.fd ++ xs.map Prod.fst).length = _
              rw [List.length_append, List.length_map, xl]
            omega
      · rintro σ G5 ⟨w2, w4, room, cs, rfl, hG, gr, same, sum, kG, hpG⟩
        exact ⟨_, rfl, kk l as ss cs G5 mk.md (mk.first (by omega)) sl15 gr (by omega) hG mk.new kG hpG⟩
end
end Sw
namespace Sw
open PySem PySem.Spec PyProof.Rows L2
/-! ### a shape spoilt, how late they are -/
def BodyOk (cs : List Shp) (i : Nat) (c : Shp) : Prop := 1 ≤ c.fd.length ∧ c.fd.length ≤ 4 ∧ c.tk.length = c.fd.length ∧ (∃ k, k < i ∧ c.fd[0]? = some k) ∧ (∀ k ∈ c.fd, ∃ c0, cs[k]? = some c0 ∧ 0 < c0.gv) ∧ (∀ t ∈ c.tk, Dig t) ∧ c.gv ≤ 8 ∧ (c.gv = 0 → c.tk = [1])
def FinOk (cs : List Shp) : Prop := ∀ i c, cs[i]? = some c → (c.tk = [] ∧ c.fd = [] ∧ c.gv = 1) ∨ BodyOk cs i c
theorem mayF_pos {c s : Shp} (h : mayF c s = true) (s1 : 1 ≤ s.ct) : 0 < c.gv ∧ Dig (c.ct * c.gv / s.ct) := by
  obtain ⟨h1, h2, h3⟩ := of_decide_eq_true h
  refine ⟨Nat.pos_of_mul_pos_left h1 |> fun _ => ?_, ?_, h3⟩
  · rcases Nat.eq_zero_or_pos c.gv with z | z
    · rw [z, Nat.mul_zero] at h1
      exact absurd h1 (Nat.lt_irrefl _)
    · exact z
  · exact Nat.div_pos (Nat.le_of_dvd h1 (Nat.dvd_of_mod_eq_zero h2)) (by omega)
theorem fin_ok {ss cs : List Shp} (h : Made ss) (g : Al (Grown ss) cs ss) : FinOk cs ∧ ∀ c ∈ cs, c.lb = none := by
  have to : ∀ (k : Nat) (c0 : Shp), ss[k]? = some c0 → ∃ c, cs[k]? = some c ∧ c.gv = c0.gv := fun k c0 e => by
    obtain ⟨c, ec, gr⟩ := g.get' e
    exact ⟨c, ec, gr.2.1⟩
  refine ⟨fun i c ec => ?_, fun c hc => ?_⟩
  · obtain ⟨s, es, g1, g2, g3, xs, xl, xf, xt, xok⟩ := g.get ec
    obtain ⟨f1, f2, f3, f4, f5⟩ := h.few s (List.mem_of_getElem? es)
    rcases h i s es with ⟨h1, h2, h3, h4, _⟩ | ⟨k, c0, r, e0, c0g, s1, s2, r1, r8, _, _, _, s3, _⟩
    · have x0 : xs = [] := List.length_eq_zero_iff.mp (by omega)
      subst x0
      refine .inl ⟨by rw [xt, h1]; rfl, by rw [xf, h2]; rfl, by rw [g2, h3]⟩
    · rw [List.getElem?_take] at e0
      split at e0
      · rename_i ki
        have m3 : s.mo ≤ 3 := f4
        refine .inr ⟨?_, ?_, ?_, ⟨k, ki, by rw [xf, s1]; rfl⟩, fun k' hk' => ?_, fun t ht => ?_, by rw [g2]; exact f3, fun z => ?_⟩
        · rw [xf, s1, List.length_append]
          show 1 ≤ 1 + _
          omega
        · rw [xf, s1, List.length_append, List.length_map]
          show 1 + _ ≤ 4
          omega
        · rw [xf, xt, s1, s2, List.length_append, List.length_append, List.length_map, List.length_map]
          rfl
        · rw [xf, s1] at hk'
          rcases List.mem_cons.mp hk' with rfl | hk'
          · obtain ⟨c1, e1, q⟩ := to _ c0 e0
            exact ⟨c1, e1, by omega⟩
          · obtain ⟨x, hx, rfl⟩ := List.mem_map.mp hk'
            obtain ⟨c2, e2, my, _⟩ := xok x hx
            obtain ⟨c1, e1, q⟩ := to _ c2 e2
            have := (mayF_pos my f1).1
            exact ⟨c1, e1, by omega⟩
        · rw [xt, s2] at ht
          rcases List.mem_cons.mp ht with rfl | ht
          · exact ⟨r1, r8⟩
          · obtain ⟨x, hx, rfl⟩ := List.mem_map.mp ht
            obtain ⟨c2, e2, my, x2⟩ := xok x hx
            rw [x2]
            exact (mayF_pos my f1).2
        · rw [g2] at z
          rcases s3 with ⟨z1, _⟩ | ⟨_, z2, z3⟩
          · omega
          · have x0 : xs = [] := List.length_eq_zero_iff.mp (by omega)
            rw [xt, s2, x0, z3]
            rfl
      · cases e0
  · obtain ⟨i, ei⟩ := List.getElem?_of_mem hc
    obtain ⟨s, es, g1, g2, g3, _⟩ := g.get ei
    rw [g3]
    exact (h.few s (List.mem_of_getElem? es)).2.2.2.2
/-- a body is changed -/
theorem FinOk.set {cs : List Shp} (h : FinOk cs) {j : Nat} {c c' : Shp} (e : cs[j]? = some c) (h1 : c'.fd = c.fd) (h2 : c'.tk.length = c.tk.length) (h3 : c.tk ≠ []) (h4 : ∀ t ∈ c'.tk, Dig t) (h5 : 0 < c'.gv) (h6 : c'.gv ≤ 8) : FinOk (cs.set j c') := by
  have to : ∀ (k : Nat) (c0 : Shp), cs[k]? = some c0 → 0 < c0.gv → ∃ c1, (cs.set j c')[k]? = some c1 ∧ 0 < c1.gv := fun k c0 e0 g => by
    by_cases z : j = k
    · subst z
      exact ⟨c', List.getElem?_set_self (List.getElem?_eq_some_iff.mp e0).1, h5⟩
    · exact ⟨c0, by rw [List.getElem?_set_ne z]; exact e0, g⟩
  intro i b eb
  by_cases z : j = i
  · subst z
    rw [List.getElem?_set_self (List.getElem?_eq_some_iff.mp e).1] at eb
    cases eb
    rcases h j c e with ⟨q, _⟩ | ⟨b1, b2, b3, b4, b5, b6, b7, b8⟩
    · exact absurd q h3
    · refine .inr ⟨by rw [h1]; exact b1, by rw [h1]; exact b2, by rw [h2, h1]; exact b3, by rw [h1]; exact b4, fun k hk => ?_, h4, h6, fun z => absurd z (by omega)⟩
      rw [h1] at hk
      obtain ⟨c0, e0, g⟩ := b5 k hk
      exact to k c0 e0 g
  · rw [List.getElem?_set_ne z] at eb
    rcases h i b eb with q | ⟨b1, b2, b3, b4, b5, b6⟩
    · exact .inl q
    · refine .inr ⟨b1, b2, b3, b4, fun k hk => ?_, b6⟩
      obtain ⟨c0, e0, g⟩ := b5 k hk
      exact to k c0 e0 g
theorem nats_shaped (ts : List Nat) : SeqAt.shaped (.list (ts.map natD)) = true := by
  obtain ⟨a1, a2⟩ := tk_lay ts
  unfold SeqAt.shaped
  rw [PyData.canLay0, a1, PyData.depth, a2]
  rfl
theorem nats_dp {K : PySem.W.Frag} {H : Hp} : ∀ ts : List Nat, DpAll K H (ts.map natV) (ts.map natD)
  | [] => .nil
  | t :: r => .cons (.int _) (nats_dp r)
theorem eqv_nil {ds : List PyData} : PyData.eqv (.list ds) (.list []) = decide (ds = []) := by
  cases ds with
  | nil => rfl
  | cons t r => rfl
theorem fd_set {cs : List Shp} {j : Nat} {c c' : Shp} (e : cs[j]? = some c) (h : c'.fd = c.fd) : (cs.set j c').map Shp.fd = cs.map Shp.fd := by
  rw [List.map_set, h]
  exact set_same (by rw [List.getElem?_map, e]; rfl)
theorem lb_set {cs : List Shp} {j : Nat} {c' : Shp} (h : ∀ c ∈ cs, c.lb = none) (h' : c'.lb = none) : ∀ c ∈ cs.set j c', c.lb = none := fun c hc => by
  rcases List.mem_or_eq_of_mem_set hc with h1 | rfl
  · exact h c h1
  · exact h'
theorem ixN_natK {n k : Nat} (h : k < n) : ixN n (k : Int) = some k := by
  unfold ixN
  simp
  omega
def spSpoil : Sp := fun vs H Q _ => ∃ (p l : Addr) (as : List Ad) (cs : List Shp), vs = [.ref p, .ref l] ∧ PotAt H p ∧ Shs H l as cs ∧ p ∉ l :: flat as ∧ cs ≠ [] ∧ cs.length ≤ 15 ∧ FinOk cs ∧ (∀ c ∈ cs, c.lb = none) ∧
  ∀ (cs' : List Shp) (H' : Hp), FinOk cs' → (∀ c ∈ cs', c.lb = none) → cs'.map Shp.fd = cs.map Shp.fd → Shs H' l as cs' → PotAt H' p → KD (p :: l :: flat as) H H' → Q .non H'
section
variable {P : Program} {w : World} {K : PySem.W.Frag} {mg : Str → Option Value} {base : Heap} {f f1 f2 f3 f4 f5 f6 f7 f8 f9 C CN CO CI CW dd : Addr} {cl : Srt → Addr} {fd fd1 fd2 fd3 fd4 fd5 fd6 fd7 fd8 fd9 : FuncData}
abbrev nLSpoil : List Str := ["_law_pot_here", "_law_shapes_here", "_law_one", "_law_rate"]
theorem scLSpoil : FnScope nLSpoil ["_law_pot_here", "_law_shapes_here"] (defScope sLSpoil) := ⟨rfl, rfl, rfl, by decide +kernel, rfl, by decide +kernel, by decide +kernel⟩
theorem ok_spoil (F : FnP K "_law_spoil" sLSpoil f fd) (GD : FnOk P w K mg base CX0 1 f1 fd1 ["_law_pot_here", "_law_many"] spDigit) (gD : mg "_law_digit" = some (.ref f1)) (kD : PySem.W.keepIn K (.ref f1) = true) (bD : Binds K fd1 ["_law_pot_here", "_law_many"] []) (gLen : mg "len" = none) : FnOk P w K mg base CX0 2 f fd ["_law_pot_here", "_law_shapes_here"] spSpoil := by
  refine F.ok scLSpoil (fun vs H Q E h => ?_) (fun cdv A ou s H vs Q E hr h => ?_)
  · obtain ⟨p, l, as, cs, rfl, _⟩ := h
    rfl
  · obtain ⟨p, l, as, cs, rfl, hp, hs, np, ne, few, fin, lbn, kk⟩ := h
    have nd := scLSpoil.nd
    have hr1 : Room 1 _ := hr
    have hu := hu_of hr
    have hu6 := hr.units
    refine ⟨_, PSs.nox (pss_cons (ps_set (i := 2) nd rfl (Or.inl rfl) (pe_ix ix_list (pv 1) (pe_call GD hr1 rfl gD kD bD .nil pass0 (pa_cons (pv 0) (pa_cons (pe_callB call_len_seq (by rfl) gLen PySem.boot_len (pa_cons (pv 1) pa_nil)) pa_nil))) (fun _ _ => rfl)))
      (pss_cons (ps_set (i := 3) nd rfl (Or.inl rfl) (pe_op op_add pe_int (pe_call GD hr1 rfl gD kD bD .nil pass0 (pa_cons (pv 0) (pa_cons pe_int pa_nil)))))
      (pss_one (ps_if (PW.pt (pw_and (pt_cmpR (op_neD hu6) (pe_dget hu (pv 2) pe_str (fun _ _ => rfl)) (pe_lst pa_nil) (nomark _)) (pw_and1 (pt_cmpR op_gt (pe_dget hu (pv 2) pe_str (fun _ _ => rfl)) pe_int (nomark _))))) (pss_one (ps_if (pt_cmpR op_eq (pe_call GD hr1 rfl gD kD bD .nil pass0 (pa_cons (pv 0) (pa_cons pe_int pa_nil))) pe_int (nomark _)) (pss_one (ps_dput hu (pv 2) pe_str (pv 3) rfl)) (pss_one (ps_asg (pv 3) (pg_sub (pe_dget hu (pv 2) pe_str (fun _ _ => rfl)) (pe_call GD hr1 rfl gD kD bD .nil pass0 (pa_cons (pv 0) (pa_cons (pe_callB call_len_seq (by rfl) gLen PySem.boot_len (pa_cons (pe_dget hu (pv 2) pe_str (fun _ _ => rfl)) pa_nil)) pa_nil))) set_list (by intro _; rfl)))))) pss_nil)))), ?_⟩
    have lens := hs.2.1.len
    have cpos := List.length_pos_iff.mpr ne
    refine ⟨_, rfl, _, rfl, _, rfl, l, _, rfl, .inl (SqL.of hs.1), p, _, rfl, hp, by rw [List.length_map]; omega, by rw [List.length_map]; omega, fun e H1 d0 d1 k1 hp1 => ?_⟩
    obtain ⟨j, rfl, jl⟩ := nat_of d0 d1
    rw [List.length_map] at jl
    have jc : j < cs.length := by omega
    obtain ⟨c, ec⟩ : ∃ c, cs[j]? = some c := ⟨_, List.getElem?_eq_getElem jc⟩
    have hs1 := hs.kept k1 np
    obtain ⟨a, ea, hA⟩ := hs1.2.1.get' ec
    have ia : (as.map fun a => V.ref a.d)[j]? = some (.ref a.d) := by rw [List.getElem?_map, ea]; rfl
    refine ⟨l, _, _, _, rfl, rfl, SqL.of hs1.1, atI_nat (j := j) ia, ?_⟩
    refine ⟨_, rfl, p, _, rfl, hp1, by decide, by decide, fun e H2 d0 d1 k2 hp2 => ⟨_, _, rfl, rfl, ?_⟩⟩
    obtain ⟨r, rfl, r8⟩ := nat_of d0 d1
    have er : V.int (1 + (r : Int)) = natV (r + 1) := by
      unfold natV
      congr 1
      omega
    dsimp only [gName]
    rw [er]
    have hs2 := hs1.kept k2 np
    have hA2 : ShAt H2 a c := by
      obtain ⟨z, ez, hz⟩ := hs2.2.1.get ea
      rw [ec] at ez
      cases ez
      exact hz
    have K2 : Kept p H H2 := k1.trans k2
    obtain ⟨md, mt, mf⟩ := mem_flat (List.mem_of_getElem? ea)
    have nd2 := (List.nodup_cons.mp hs.2.2).2
    obtain ⟨ad1, ad2, ad3⟩ := apart1 nd2 ea
    have npd : a.d ≠ p := fun z => np (z ▸ List.mem_cons_of_mem _ md)
    have npt : a.t ≠ p := fun z => np (z ▸ List.mem_cons_of_mem _ mt)
    refine ⟨_, rfl, a.d, _, rfl, dg_takes hA2, (by show 0 ≤ sizeLine; decide), fun l0 h0 => ?_⟩
    have s3 := Same.new (o := .lst []) (Same.refl H2) h0
    have g3 : upd H2 l0 (.lst []) l0 = some (.lst []) := upd_same
    have K3 : Kept p H (upd H2 l0 (.lst [])) := K2.past (K2.free hp2 h0)
    have hp3 := hp2.keep s3
    generalize upd H2 l0 (.lst []) = H3 at s3 g3 K3 hp3
    have hs3 := hs2.keep s3
    have hA3 := hA2.keep s3
    refine ⟨.list (c.tk.map natD), .list [], .lst (SqL.of hA3.2.1) (nats_dp _), .lst (SqL.of g3) .nil, nats_shaped _, rfl, _, rfl, ?_⟩
    rw [eqv_nil]
    have same : ∀ {H' : Hp}, Kept p H H' → PotAt H' p → Shs H' l as cs → Q .non H' := fun k hp' h => kk cs _ fin lbn rfl h hp' (KD.kept k List.mem_cons_self)
    refine ite2 (fun z => ?_) (fun z => same K3 hp3 hs3)
    have tne : c.tk ≠ [] := fun q => by
      rw [q] at z
      cases z
    refine ⟨_, rfl, a.d, _, rfl, dg_gives hA3, _, _, rfl, rfl, _, rfl, ?_⟩
    refine ite2 (fun z2 => ?_) (fun z2 => same K3 hp3 hs3)
    have g0 : 0 < c.gv := by
      have := of_decide_eq_true z2
      omega
    have bo : BodyOk cs j c := by
      rcases fin j c ec with q | q
      · exact absurd q.1 tne
      · exact q
    refine ⟨_, rfl, p, _, rfl, hp3, by decide, by decide, fun e H4 d0 d1 k4 hp4 => ⟨rfl, _, rfl, ?_⟩⟩
    have K4 := K3.trans k4
    have hs4 := hs3.kept k4 np
    have hA4 : ShAt H4 a c := by
      obtain ⟨z, ez, hz⟩ := hs4.2.1.get ea
      rw [ec] at ez
      cases ez
      exact hz
    refine ite2 (fun _ => ?_) (fun _ => ?_)
    · refine ⟨_, rfl, _, rfl, a.d, _, rfl, DPut.k (k := kS "gives") hA4.1 (Nat.lt_of_le_of_lt sh_len (by decide)), ?_⟩
      rw [put_gives]
      have hA5 : ShAt (upd H4 a.d (.dK (shKV { c with gv := r + 1 } a))) a { c with gv := r + 1 } := ⟨upd_same, by rw [upd_ne ad1.symm]; exact hA4.2.1, by rw [upd_ne ad2.symm]; exact hA4.2.2⟩
      exact kk (cs.set j { c with gv := r + 1 }) _ (fin.set ec rfl rfl tne bo.2.2.2.2.2.1 (by show 0 < r + 1; omega) (by show r + 1 ≤ 8; omega)) (lb_set lbn (lbn c (List.mem_of_getElem? ec))) (fd_set ec rfl) (hs4.set ea hA5 (fun b o n1 _ _ e => by rw [upd_ne n1]; exact e)) (hp4.upd npd) ((KD.kept K4 List.mem_cons_self).upd (List.mem_cons_of_mem _ (List.mem_cons_of_mem _ md)))
    · have tpos := List.length_pos_iff.mpr tne
      have tl : c.tk.length ≤ 4 := by
        have := bo.2.1
        have := bo.2.2.1
        omega
      refine ⟨_, rfl, _, rfl, a.d, _, rfl, dg_takes hA4, _, rfl, _, rfl, a.d, _, rfl, dg_takes hA4, a.t, _, rfl, .inl (SqL.of hA4.2.1), p, _, rfl, hp4, by rw [List.length_map]; omega, by rw [List.length_map]; omega, fun e H5 d0 d1 k5 hp5 => ?_⟩
      obtain ⟨k, rfl, kl⟩ := nat_of d0 d1
      rw [List.length_map] at kl
      have K5 := K4.trans k5
      have hs5 := hs4.kept k5 np
      have hA5 : ShAt H5 a c := by
        obtain ⟨z, ez, hz⟩ := hs5.2.1.get ea
        rw [ec] at ez
        cases ez
        exact hz
      refine ⟨a.t, _, _, k, rfl, rfl, hA5.2.1, ixN_natK (by rw [List.length_map]; omega), ?_⟩
      have hA6 : ShAt (upd H5 a.t (.lst ((c.tk.map natV).set k (natV (r + 1))))) a { c with tk := c.tk.set k (r + 1) } := by
        refine ⟨?_, ?_, ?_⟩
        · rw [upd_ne ad1]
          exact hA5.1
        · rw [upd_same, List.map_set]
        · rw [upd_ne ad3.symm]
          exact hA5.2.2
      refine kk (cs.set j { c with tk := c.tk.set k (r + 1) }) _ (fin.set ec rfl (by show (c.tk.set k (r + 1)).length = _; rw [List.length_set]) tne (fun t ht => ?_) g0 bo.2.2.2.2.2.2.1) (lb_set lbn (lbn c (List.mem_of_getElem? ec))) (fd_set ec rfl) (hs5.set ea hA6 (fun b o _ n2 _ e => by rw [upd_ne n2]; exact e)) (hp5.upd npt) ((KD.kept K5 List.mem_cons_self).upd (List.mem_cons_of_mem _ (List.mem_cons_of_mem _ mt)))
      rcases List.mem_or_eq_of_mem_set ht with h1 | rfl
      · exact bo.2.2.2.2.2.1 t h1
      · exact ⟨by omega, by omega⟩
end
end Sw
namespace Sw
open PySem PySem.Spec PyProof.Rows L2
/-! ### delays, how late they are -/
theorem four_of (v0 v1 v2 v3 : Nat) {d : Int} (h0 : 0 ≤ d) (h4 : d < 4) : ∃ m : Nat, atI [natV v0, natV v1, natV v2, natV v3] d = some (natV m) ∧ (m = v0 ∨ m = v1 ∨ m = v2 ∨ m = v3) := by
  have : d = 0 ∨ d = 1 ∨ d = 2 ∨ d = 3 := by omega
  rcases this with rfl | rfl | rfl | rfl
  · exact ⟨v0, rfl, .inl rfl⟩
  · exact ⟨v1, rfl, .inr (.inl rfl)⟩
  · exact ⟨v2, rfl, .inr (.inr (.inl rfl))⟩
  · exact ⟨v3, rfl, .inr (.inr (.inr rfl))⟩
def spDelays : Sp := fun vs H Q _ => ∃ (p : Addr), vs = [.ref p, .int 48, .int 1900] ∧ PotAt H p ∧ ∀ (l : Addr) (ds : List Nat) (H' : Hp), ds.length = 48 → (∀ d ∈ ds, d ≤ 2000) → H l = none → Kept p H H' → PotAt H' p → H' l = some (.lst (ds.map natV)) → Q (.ref l) H'
section
variable {P : Program} {w : World} {K : PySem.W.Frag} {mg : Str → Option Value} {base : Heap} {f f1 f2 f3 f4 f5 f6 f7 f8 f9 C CN CO CI CW dd : Addr} {cl : Srt → Addr} {fd fd1 fd2 fd3 fd4 fd5 fd6 fd7 fd8 fd9 : FuncData}
abbrev nLDelays : List Str := ["_law_pot_here", "_law_many", "_law_budget", "_law_delays_here", "_law_k", "_law_delay"]
theorem scLDelays : FnScope nLDelays ["_law_pot_here", "_law_many", "_law_budget"] (defScope sLDelays) := ⟨rfl, rfl, rfl, by decide +kernel, rfl, by decide +kernel, by decide +kernel⟩
theorem ok_delays (F : FnP K "_law_delays" sLDelays f fd) (GD : FnOk P w K mg base CX0 1 f1 fd1 ["_law_pot_here", "_law_many"] spDigit) (gD : mg "_law_digit" = some (.ref f1)) (kD : PySem.W.keepIn K (.ref f1) = true) (bD : Binds K fd1 ["_law_pot_here", "_law_many"] []) (gRange : mg "range" = none) (gInt : mg "int" = none) : FnOk P w K mg base CX0 2 f fd ["_law_pot_here", "_law_many", "_law_budget"] spDelays := by
  refine F.ok scLDelays (fun vs H Q E h => ?_) (fun cdv A ou s H vs Q E hr h => ?_)
  · obtain ⟨p, rfl, _⟩ := h
    rfl
  · obtain ⟨p, rfl, hp, kk⟩ := h
    have nd := scLDelays.nd
    have hr1 : Room 1 _ := hr
    have hu := hu_of hr
    have hu6 := hr.units
    refine ⟨_, PSs.nox (pss_cons (ps_set (i := 3) nd rfl (Or.inl rfl) (pe_lst pa_nil))
      (pss_cons (ps_for PassesOwn.never rfl (pi_range1 rfl gRange (pa_cons (pv 1) pa_nil)) (pg_name (i := 4) nd rfl (Or.inl rfl))
      (pss_cons (ps_set (i := 5) nd rfl (Or.inl rfl) (pe_ix ix_list (pe_lst (pa_cons pe_int (pa_cons pe_int (pa_cons (pe_call GD hr1 rfl gD kD bD .nil pass0 (pa_cons (pv 0) (pa_cons pe_int pa_nil))) (pa_cons (pe_call GD hr1 rfl gD kD bD .nil pass0 (pa_cons (pv 0) (pa_cons pe_int pa_nil))) pa_nil))))) (pe_call GD hr1 rfl gD kD bD .nil pass0 (pa_cons (pv 0) (pa_cons pe_int pa_nil))) (fun _ _ => rfl)))
      (pss_cons (ps_expr (pe_bm PySem.F.plainAttrs_list PySem.F.slot_list_append PySem.F.type_list_append mt_append (pv 3) (pa_cons (pe_op op_mul (pv 5) (pe_callTy call_int1 (by rfl) gInt PyProof.Rows.boot_int (pa_cons (pe_cmpR op_le (pv 5) (pv 2) (nomark _)) pa_nil))) pa_nil)))
      (pss_one (ps_set (i := 2) nd rfl (Or.inl rfl) (pe_op op_sub (pv 2) (pe_ix ix_list (pv 3) (pe_un un_neg pe_int) (fun _ _ => rfl))))))))
      (pss_one (ps_ret (pv 3))))), ?_⟩
    refine ⟨by decide, fun l hl => ?_⟩
    have nlp := hp.ne hl
    refine ⟨_, rfl, 48, rfl, by decide, by decide, ?_⟩
    refine for_range (fun i σ G => ∃ (w2 w3 : Option V) (b : Nat) (ds : List Nat), σ = [some (.ref p), some (.int 48), some (natV b), some (.ref l), w2, w3] ∧ PotAt G p ∧ Kept p H G ∧ G l = some (.lst (ds.map natV)) ∧ ds.length = i ∧ b ≤ 1900 ∧ ∀ d ∈ ds, d ≤ 2000) ⟨_, _, 1900, [], rfl, hp.upd nlp, Kept.past (Kept.same (Same.refl H)) hl, upd_same, rfl, Nat.le_refl _, fun _ h => (List.not_mem_nil h).elim⟩ ?_ ?_
    · rintro i σ G il ⟨w2, w3, b, ds, rfl, hpG, kG, hlG, dl, bl, dok⟩
      refine ⟨_, rfl, p, _, rfl, hpG, by decide, by decide, fun e1 H1 d0 d1 k1 hp1 => ?_⟩
      obtain ⟨n1, rfl, n1l⟩ := nat_of d0 d1
      refine ⟨_, rfl, p, _, rfl, hp1, by decide, by decide, fun e2 H2 d0 d1 k2 hp2 => ?_⟩
      obtain ⟨n2, rfl, n2l⟩ := nat_of d0 d1
      refine ⟨(by show 4 ≤ sizeLine; decide), fun q hq => ?_⟩
      have s3 := Same.new (o := .lst [V.int 0, V.int 1, V.int (n1 : Int), V.int (n2 : Int)]) (Same.refl H2) hq
      have g3 : upd H2 q (.lst [V.int 0, V.int 1, V.int (n1 : Int), V.int (n2 : Int)]) q = some (.lst [V.int 0, V.int 1, V.int (n1 : Int), V.int (n2 : Int)]) := upd_same
      have nqp := hp2.ne hq
      have hp3 := hp2.keep s3
      have k3 := ((kG.trans k1).trans k2).trans (Kept.same s3)
      have hl3 := s3 _ _ (k2 _ _ nlp (k1 _ _ nlp hlG))
      generalize upd H2 q (.lst [V.int 0, V.int 1, V.int (n1 : Int), V.int (n2 : Int)]) = H3 at s3 g3 hp3 k3 hl3
      refine ⟨_, rfl, p, _, rfl, hp3, by decide, by decide, fun e4 H4 d0 d1 k4 hp4 => ?_⟩
      obtain ⟨m, em, mo⟩ := four_of 0 1 n1 n2 d0 d1
      have m2 : m ≤ 2000 := by omega
      have hl4 := k4 _ _ nlp hl3
      have K4 := k3.trans k4
      refine ⟨q, _, _, _, rfl, rfl, SqL.of (k4 _ _ nqp g3), em, ?_⟩
      dsimp only [gName]
      obtain ⟨b', x, ex, xl, bl', eb⟩ : ∃ b' x : Nat, (m : Int) * (if decide ((m : Int) ≤ (b : Int)) = true then 1 else 0) = (x : Int) ∧ x ≤ 2000 ∧ b' ≤ 1900 ∧ (b : Int) - (x : Int) = (b' : Int) := by
        by_cases z : m ≤ b
        · exact ⟨b - m, m, by rw [decide_eq_true (by omega), if_pos rfl, Int.mul_one], m2, by omega, by omega⟩
        · exact ⟨b, 0, by rw [decide_eq_false (by omega), if_neg (by decide), Int.mul_zero]; rfl, by omega, bl, by omega⟩
      refine ⟨_, rfl, .inl ⟨rfl, _, SqL.of hl4⟩, _, rfl, _, rfl, _, rfl, _, _, rfl, rfl, .inr ⟨_, rfl, _, _, rfl, rfl, .inl ⟨by omega, by omega⟩, l, _, _, rfl, rfl, hl4, by rw [List.length_map]; exact Nat.lt_of_lt_of_le (show ds.length < 100 by omega) (by decide), ?_⟩⟩
      dsimp only
      rw [ex]
      have g5 : upd H4 l (.lst (ds.map natV ++ [V.int (x : Int)])) l = some (.lst ((ds ++ [x]).map natV)) := by
        rw [List.map_append]
        exact upd_same
      have e5 : atI ((ds ++ [x]).map natV) (-1) = some (natV x) := by
        rw [List.map_append]
        exact atI_last _ _
      refine ⟨_, rfl, _, rfl, _, rfl, l, _, _, _, rfl, rfl, SqL.of g5, e5, _, _, rfl, rfl, ?_⟩
      dsimp only [gName]
      rw [eb]
      refine ⟨_, _, b', ds ++ [x], rfl, hp4.upd nlp, K4.past hl, g5, by rw [List.length_append, dl]; rfl, bl', fun d hd => ?_⟩
      rcases List.mem_append.mp hd with h | h
      · exact dok d h
      · rw [List.mem_singleton.mp h]
        exact xl
    · rintro σ G ⟨w2, w3, b, ds, rfl, hpG, kG, hlG, dl, bl, dok⟩
      exact ⟨_, rfl, kk l ds _ dl dok hl kG hpG hlG⟩
theorem KD.same {D : List Addr} {H H1 H2 : Hp} (a : KD D H H1) (s : Same H1 H2) : KD D H H2 := fun c o n e => s _ _ (a c o n e)
theorem val_late {s : Shp} {a : Ad} {m : Nat} : valV (putK (shKV s a) (kS "late") (natV m)) (kS "late") = some (natV m) := by
  rw [valV_put, if_pos rfl]
theorem late_len {s : Shp} {a : Ad} {m : Nat} : (putK (shKV s a) (kS "late") (natV m)).length ≤ 8 := by
  have h := sh_len (s := s) (a := a)
  unfold putK
  split
  · rw [List.length_map]
    omega
  · rw [List.length_append]
    exact Nat.succ_le_succ h
/-- how late a shape has become -/
def LtR (c c1 : Shp) : Prop := ∃ lt b, c1 = { c with lb := some (lt, b) } ∧ lt ≤ 99 ∧ b ≤ 9999 ∧ (c.tk = [] ∨ c.gv = 0 → lt = 0)
theorem mt_lcountIK {X : Cx} {K : PySem.W.Frag} (h : X.K = K) : MtR X "list.count" (rCntI K) := by
  subst h
  exact mt_lcount
def spLates : Sp := fun vs H Q _ => ∃ (p l : Addr) (as : List Ad) (cs : List Shp), vs = [.ref p, .ref l, .int 300] ∧ PotAt H p ∧ Shs H l as cs ∧ p ∉ l :: flat as ∧ cs.length ≤ 15 ∧ (∀ c ∈ cs, c.lb = none) ∧ (∀ c ∈ cs, c.gv ≤ 8) ∧
  ∀ (cs' : List Shp) (H' : Hp), cs'.length = cs.length → (∀ (i : Nat) (c : Shp), cs[i]? = some c → ∃ c1, cs'[i]? = some c1 ∧ LtR c c1) → Shs H' l as cs' → PotAt H' p → KD (p :: l :: flat as) H H' → Q .non H'
theorem and3V {K : PySem.W.Frag} {p l : Addr} {a : Ad} {c : Shp} {b W j : Int} {m : Nat} {o : Option V} {H : Hp} {Q : VK} (hA : ShAt H a c) (m99 : m ≤ 99) (q : ∀ (k : Bool) (H7 : Hp), Same H H7 → (k = true → c.tk ≠ [] ∧ 0 < c.gv) → Q (.bl k) H7) :
    tAndV (tOp (rI0 fun i j => V.bl (decide (i ≤ j))) (tOp (rI CMul fun i j => V.int (i * j)) (tVar 6) (tVar 5)) (tVar 2)) (tAndV (tOp (rNeD K) (tDGet (tVar 4) (tC (V.str (Str.ofString "takes")))) (tLst tNil)) (tOp (rI0 fun i j => V.bl (decide (j < i))) (tDGet (tVar 4) (tC (V.str (Str.ofString "gives")))) (tC (V.int 0))))
      [some (.ref p), some (.ref l), some (.int b), some (.int j), some (.ref a.d), some (.int W), some (natV m), o] H Q := by
  refine ⟨_, rfl, _, rfl, _, _, rfl, rfl, .inl ⟨by omega, by omega⟩, _, rfl, _, _, rfl, rfl, _, rfl, ?_⟩
  refine ite2 (fun _ => ?_) (fun z => q _ _ (Same.refl H) fun e => by cases e)
  refine ⟨_, rfl, a.d, _, rfl, dg_takes hA, (by show 0 ≤ sizeLine; decide), fun l0 h0 => ?_⟩
  have s3 := Same.new (o := .lst []) (Same.refl H) h0
  have g3 : upd H l0 (.lst []) l0 = some (.lst []) := upd_same
  generalize upd H l0 (.lst []) = H3 at s3 g3
  have hA3 := hA.keep s3
  refine ⟨.list (c.tk.map natD), .list [], .lst (SqL.of hA3.2.1) (nats_dp _), .lst (SqL.of g3) .nil, nats_shaped _, rfl, _, rfl, ?_⟩
  rw [eqv_nil]
  refine ite2 (fun z => ?_) (fun z => q _ _ s3 fun e => by cases e)
  have tne : c.tk ≠ [] := fun q => by
    rw [q] at z
    cases z
  refine ⟨_, rfl, a.d, _, rfl, dg_gives hA3, _, _, rfl, rfl, q _ _ s3 fun e => ⟨tne, ?_⟩⟩
  have := of_decide_eq_true e
  omega
abbrev nLLates : List Str := ["_law_pot_here", "_law_shapes_here", "_law_budget", "_law_k", "_law_one", "_law_weight", "_law_after", "_law_other"]
theorem scLLates : FnScope nLLates ["_law_pot_here", "_law_shapes_here", "_law_budget"] (defScope sLLates) := ⟨rfl, rfl, rfl, by decide +kernel, rfl, by decide +kernel, by decide +kernel⟩
theorem ok_lates (F : FnP K "_law_lates" sLLates f fd) (GD : FnOk P w K mg base CX0 1 f1 fd1 ["_law_pot_here", "_law_many"] spDigit) (gD : mg "_law_digit" = some (.ref f1)) (kD : PySem.W.keepIn K (.ref f1) = true) (bD : Binds K fd1 ["_law_pot_here", "_law_many"] []) (gEnumerate : mg "enumerate" = none) (gInt : mg "int" = none) (gSum : mg "sum" = none) : FnOk P w K mg base CX0 2 f fd ["_law_pot_here", "_law_shapes_here", "_law_budget"] spLates := by
  refine F.ok scLLates (fun vs H Q E h => ?_) (fun cdv A ou s H vs Q E hr h => ?_)
  · obtain ⟨p, l, as, cs, rfl, _⟩ := h
    rfl
  · obtain ⟨p, l, as, cs, rfl, hp, hs, np, few, lbn, g8, kk⟩ := h
    have nd := scLLates.nd
    have hr1 : Room 1 _ := hr
    have hu := hu_of hr
    have hu6 := hr.units
    refine ⟨_, PSs.nox (pss_one (ps_for PassesOwn.never rfl (pi_enum (by rfl) gEnumerate (pa_cons (pv 1) pa_nil)) (pg_tup rfl (pgs_cons (pg_name (i := 3) nd rfl (Or.inr rfl)) (pgs_cons (pg_name (i := 4) nd rfl (Or.inl rfl)) pgs_nil)))
      (pss_cons (ps_set (i := 5) nd rfl (Or.inl rfl) (pe_op op_mul (pe_dget hu (pv 4) pe_str (fun _ _ => rfl)) (pe_callB (cr_sum rfl) (by rfl) gSum (by decide +kernel) (pa_cons (pe_lc (own := [("_law_other", 7)]) (g := (gName 7)) (tt := tYes) rfl nd (pi_list (pv 1)) (blkOk_by (N := nLLates) (sc := defScope sLLates) (by decide +kernel))
        (fun _ _ _ _ _ => (pg_name (i := 7) nd rfl (Or.inl rfl))) (fun _ _ _ _ _ => pts_nil) (fun _ _ _ _ _ => (PE.k (K := K) (t := fun K0 => tBM K0 "list" (rCntI K) (tDGet (tVar 7) (tC (.str "feeds"))) (tCons (tVar 3) tNil)) rfl <| pe_bm PySem.F.plainAttrs_list PySem.F.slot_list_count PySem.F.type_list_count (mt_lcountIK (K := K) rfl) (pe_dget hu (pv 7) pe_str (fun _ _ => rfl)) (pa_cons (pv 3) pa_nil)))) pa_nil))))
      (pss_cons (ps_set (i := 6) nd rfl (Or.inl rfl) (pe_ix ix_list (pe_lst (pa_cons pe_int (pa_cons pe_int (pa_cons (pe_op op_add pe_int (pe_call GD hr1 rfl gD kD bD .nil pass0 (pa_cons (pv 0) (pa_cons pe_int pa_nil)))) (pa_cons (pe_call GD hr1 rfl gD kD bD .nil pass0 (pa_cons (pv 0) (pa_cons pe_int pa_nil))) pa_nil))))) (pe_call GD hr1 rfl gD kD bD .nil pass0 (pa_cons (pv 0) (pa_cons pe_int pa_nil))) (fun _ _ => rfl)))
      (pss_cons (ps_dput hu (pv 4) pe_str (pe_op op_mul (pv 6) (pe_callTy call_int1 (by rfl) gInt PyProof.Rows.boot_int (pa_cons (pe_and (pe_cmpR op_le (pe_op op_mul (pv 6) (pv 5)) (pv 2) (nomark _)) (pe_and (pe_cmpR (op_neDK (K := K) rfl hu6) (pe_dget hu (pv 4) pe_str (fun _ _ => rfl)) (pe_lst pa_nil) (nomark _)) (pe_one (pe_cmpR op_gt (pe_dget hu (pv 4) pe_str (fun _ _ => rfl)) pe_int (nomark _))))) pa_nil))) rfl)
      (pss_cons (ps_set (i := 2) nd rfl (Or.inl rfl) (pe_op op_sub (pv 2) (pe_op op_mul (pe_dget hu (pv 4) pe_str (fun _ _ => rfl)) (pv 5))))
      (pss_one (ps_dput hu (pv 4) pe_str (pe_ix ix_list (pe_lst (pa_cons pe_int (pa_cons pe_int (pa_cons pe_int (pa_cons (pe_call GD hr1 rfl gD kD bD .nil pass0 (pa_cons (pv 0) (pa_cons pe_int pa_nil))) pa_nil))))) (pe_call GD hr1 rfl gD kD bD .nil pass0 (pa_cons (pv 0) (pa_cons pe_int pa_nil))) (fun _ _ => rfl)) rfl)))))))), ?_⟩
    refine ⟨_, rfl, l, _, rfl, SqL.of hs.1, ?_⟩
    have lens := hs.2.1.len
    have nlp : l ≠ p := fun z => np (z ▸ List.mem_cons_self)
    have nd2 := (List.nodup_cons.mp hs.2.2).2
    refine for_it (walk_enum (xs := as.map fun a => V.ref a.d)) (fun j σ G => ∃ (w3 w4 w5 w6 : Option V) (b : Int) (cs1 : List Shp), σ = [some (.ref p), some (.ref l), some (.int b), w3, w4, w5, w6, none] ∧ PotAt G p ∧ KD (p :: l :: flat as) H G ∧ Shs G l as cs1 ∧ cs1.length = cs.length ∧ ∀ (i : Nat) (c : Shp), cs[i]? = some c → ∃ c1, cs1[i]? = some c1 ∧ (i < j → LtR c c1) ∧ (j ≤ i → c1 = c)) ⟨_, _, _, _, 300, cs, rfl, hp, KD.refl, hs, rfl, fun i c e => ⟨c, e, fun h => absurd h (Nat.not_lt_zero _), fun _ => rfl⟩⟩ (fun j σ G _ e => by obtain ⟨_, _, _, _, _, _, _, _, _, h, _⟩ := e; exact SqL.of h.1) ?_ ?_
    · rintro j v σ G G' hj ⟨w3, w4, w5, w6, b, cs1, rfl, hpG, kG, hsG, l1, inv⟩ ⟨TT, x1, x2, rfl, hTT, rfl, e1, e2⟩
      cases e1
      have e2 : (as.map fun a => V.ref a.d)[j]? = some x2 := e2
      rw [List.getElem?_map] at e2
      obtain ⟨a, ea, rfl⟩ := Option.map_eq_some_iff.mp e2
      have jl := (List.getElem?_eq_some_iff.mp ea).1
      obtain ⟨c, ec⟩ : ∃ c, cs[j]? = some c := ⟨_, List.getElem?_eq_getElem (by omega)⟩
      obtain ⟨c', ec1, _, same⟩ := inv j c ec
      cases same (Nat.le_refl j)
      have sT := Same.new (o := .tup [V.int ((j : Nat) : Int), V.ref a.d]) (Same.refl G) hTT
      have hpT := hpG.keep sT
      have hsT := hsG.keep sT
      refine ⟨TT, _, rfl, .inl (.inl upd_same), rfl, _, _, rfl, _, _, rfl, rfl, ?_⟩
      generalize upd G TT (.tup [V.int ((j : Nat) : Int), V.ref a.d]) = GT at sT hpT hsT
      have at_ : ∀ {G : Hp}, Shs G l as cs1 → ShAt G a c := fun h => by
        obtain ⟨z, ez, hz⟩ := h.2.1.get ea
        rw [ec1] at ez
        cases ez
        exact hz
      -- the weight
      refine ⟨_, rfl, a.d, _, rfl, dg_gives (at_ hsT), ?_⟩
      refine ⟨_, rfl, l, rfl, ⟨_, SqL.of hsT.1⟩, fun D hD => ?_⟩
      refine lc_list (xs := as.map fun a => V.ref a.d) (fun j2 H' => (∃ ns : List Int, H' D = some (.lst (ns.map V.int)) ∧ ns.length = j2) ∧ Same GT H') ⟨⟨[], upd_same, rfl⟩, Same.past (Same.refl _) hD⟩ (fun j2 H' _ e => SqL.of (e.2 _ _ hsT.1)) (fun j2 v H' ev e => ?_) (fun G2 e => ?_)
      · obtain ⟨⟨ns, hns, nl⟩, sm⟩ := e
        rw [List.getElem?_map] at ev
        obtain ⟨a2, ea2, rfl⟩ := Option.map_eq_some_iff.mp ev
        obtain ⟨c2, ec2, hc2⟩ := hsT.2.1.get ea2
        have jl2 := (List.getElem?_eq_some_iff.mp ea2).1
        refine ⟨rfl, yes_ite ?_⟩
        have h2 := hc2.keep sm
        refine ⟨_, rfl, a2.d, _, rfl, dg_feeds h2, ?_⟩
        have hf := h2.2.2
        have ef : c2.fd.map natV = (c2.fd.map fun (n : Nat) => (n : Int)).map V.int := by rw [List.map_map]; rfl
        have hf' := hf
        rw [ef] at hf'
        refine ⟨.inl ⟨rfl, _, SqL.of hf⟩, _, rfl, a2.f, _, _, rfl, rfl, SqL.of hf', _, hns, ?_, ⟨ns ++ [((List.count (j : Int) (c2.fd.map fun (n : Nat) => (n : Int)) : Nat) : Int)], ?_, ?_⟩, Same.past sm hD⟩
        · rw [List.length_map]
          exact Nat.lt_of_lt_of_le (show ns.length < 100 by omega) (by decide)
        · rw [List.map_append]
          exact upd_same
        · rw [List.length_append, nl]
          rfl
      obtain ⟨⟨ns, hns, nl⟩, sm⟩ := e
      have hp2 := hpT.keep sm
      have hs2 := hsT.keep sm
      have k2 : KD (p :: l :: flat as) H G2 := (kG.same sT).same sm
      have gv8 := g8 c (List.mem_of_getElem? ec)
      refine ⟨D, ns, rfl, SqL.of hns, _, _, rfl, rfl, .inl ⟨by omega, by omega⟩, ?_⟩
      dsimp only [gName]
      generalize hW : (c.gv : Int) * ns.sum = W
      -- late
      refine ⟨_, rfl, p, _, rfl, hp2, by decide, by decide, fun e1 H3 d0 d1 k3 hp3 => ?_⟩
      obtain ⟨n1, rfl, n1l⟩ := nat_of d0 d1
      refine ⟨_, _, rfl, rfl, _, rfl, p, _, rfl, hp3, by decide, by decide, fun e4 H4 d0 d1 k4 hp4 => ?_⟩
      obtain ⟨n2, rfl, n2l⟩ := nat_of d0 d1
      have en : V.int (1 + (n1 : Int)) = natV (n1 + 1) := by
        unfold natV
        congr 1
        omega
      refine ⟨(by show 4 ≤ sizeLine; decide), fun q hq => ?_⟩
      have s5 := Same.new (o := .lst [V.int 0, V.int 0, V.int (1 + (n1 : Int)), V.int (n2 : Int)]) (Same.refl H4) hq
      have g5 : upd H4 q (.lst [V.int 0, V.int 0, V.int (1 + (n1 : Int)), V.int (n2 : Int)]) q = some (.lst [V.int 0, V.int 0, V.int (1 + (n1 : Int)), V.int (n2 : Int)]) := upd_same
      have nqp := hp4.ne hq
      have hp5 := hp4.keep s5
      have k25 : Kept p G2 _ := (k3.trans k4).trans (Kept.same s5)
      generalize upd H4 q (.lst [V.int 0, V.int 0, V.int (1 + (n1 : Int)), V.int (n2 : Int)]) = H5 at s5 g5 hp5 k25
      rw [en] at g5
      refine ⟨_, rfl, p, _, rfl, hp5, by decide, by decide, fun e6 H6 d0 d1 k6 hp6 => ?_⟩
      obtain ⟨m, em, mo⟩ := four_of 0 0 (n1 + 1) n2 d0 d1
      have m99 : m ≤ 99 := by omega
      have K26 := k25.trans k6
      have hs6 := hs2.kept K26 np
      have hA6 := at_ hs6
      have k0 : KD (p :: l :: flat as) H H6 := k2.trans (KD.kept K26 List.mem_cons_self)
      refine ⟨q, _, _, _, rfl, rfl, SqL.of (k6 _ _ nqp g5), em, ?_⟩
      dsimp only [gName]
      refine ⟨_, rfl, and3V hA6 m99 fun k H7 s7 hk => .inr ⟨_, rfl, _, _, rfl, rfl, .inl ⟨by omega, by omega⟩, ?_⟩⟩
      obtain ⟨x, ex, x99, x0⟩ : ∃ x : Nat, (m : Int) * (if k = true then 1 else 0) = (x : Int) ∧ x ≤ 99 ∧ (c.tk = [] ∨ c.gv = 0 → x = 0) := by
        by_cases z : k = true
        · refine ⟨m, by rw [if_pos z, Int.mul_one], m99, fun h => ?_⟩
          obtain ⟨h1, h2⟩ := hk z
          rcases h with h | h
          · exact absurd h h1
          · omega
        · exact ⟨0, by rw [if_neg z, Int.mul_zero]; rfl, by omega, fun _ => rfl⟩
      dsimp only
      rw [ex]
      have hs7 := hs6.keep s7
      have hA7 := at_ hs7
      have hp7 := hp6.keep s7
      have k07 := k0.same s7
      obtain ⟨md, mt, mf⟩ := mem_flat (List.mem_of_getElem? ea)
      obtain ⟨ad1, ad2, ad3⟩ := apart1 nd2 ea
      have npd : a.d ≠ p := fun z => np (z ▸ List.mem_cons_of_mem _ md)
      refine ⟨_, rfl, a.d, _, rfl, DPut.k (k := kS "late") (v := natV x) hA7.1 (Nat.lt_of_le_of_lt sh_len (by decide)), ?_⟩
      have g8 : upd H7 a.d (.dK (putK (shKV c a) (kS "late") (natV x))) a.d = some (.dK (putK (shKV c a) (kS "late") (natV x))) := upd_same
      have n8 : ∀ b, b ≠ a.d → upd H7 a.d (.dK (putK (shKV c a) (kS "late") (natV x))) b = H7 b := fun b n => upd_ne n
      have hp8 : PotAt (upd H7 a.d (.dK (putK (shKV c a) (kS "late") (natV x)))) p := hp7.upd npd
      have k08 : KD (p :: l :: flat as) H (upd H7 a.d (.dK (putK (shKV c a) (kS "late") (natV x)))) := k07.upd (List.mem_cons_of_mem _ (List.mem_cons_of_mem _ md))
      generalize upd H7 a.d (.dK (putK (shKV c a) (kS "late") (natV x))) = H8 at g8 n8 hp8 k08
      have dl : DGet H8 a.d (.str "late") (some (natV x)) := by
        have := DGet.k (k := kS "late") g8
        rw [val_late] at this
        exact this
      refine ⟨_, rfl, _, rfl, a.d, _, rfl, dl, _, rfl, _, _, rfl, rfl, .inl ⟨by omega, by omega⟩, _, _, rfl, rfl, ?_⟩
      dsimp only [gName]
      refine ⟨_, rfl, p, _, rfl, hp8, by decide, by decide, fun e9 H9 d0 d1 k9 hp9 => ?_⟩
      obtain ⟨n9, rfl, n9l⟩ := nat_of d0 d1
      refine ⟨(by show 4 ≤ sizeLine; decide), fun r hr' => ?_⟩
      have s10 := Same.new (o := .lst [V.int 0, V.int 0, V.int 1, V.int (n9 : Int)]) (Same.refl H9) hr'
      have g10 : upd H9 r (.lst [V.int 0, V.int 0, V.int 1, V.int (n9 : Int)]) r = some (.lst [V.int 0, V.int 0, V.int 1, V.int (n9 : Int)]) := upd_same
      have nrp := hp9.ne hr'
      have hp10 := hp9.keep s10
      have k8 : Kept p H8 _ := k9.trans (Kept.same s10)
      generalize upd H9 r (.lst [V.int 0, V.int 0, V.int 1, V.int (n9 : Int)]) = H10 at s10 g10 hp10 k8
      refine ⟨_, rfl, p, _, rfl, hp10, by decide, by decide, fun e11 H11 d0 d1 k11 hp11 => ?_⟩
      obtain ⟨u, eu, uo⟩ := four_of 0 0 1 n9 d0 d1
      have u4 : u ≤ 9999 := by omega
      have K8 := k8.trans k11
      refine ⟨r, _, _, _, rfl, rfl, SqL.of (k11 _ _ nrp g10), eu, ?_⟩
      have g11 := K8 _ _ npd g8
      refine ⟨_, rfl, a.d, _, rfl, DPut.k (k := kS "begin") (v := natV u) g11 (Nat.lt_of_le_of_lt late_len (by decide)), ?_⟩
      rw [put_late (lbn c (List.mem_of_getElem? ec))]
      have k78 : ∀ b o, b ≠ p → b ≠ a.d → H7 b = some o → upd H11 a.d (.dK (shKV { c with lb := some (x, u) } a)) b = some o := fun b o n1 n2 e => by
        rw [upd_ne n2]
        refine K8 b o n1 ?_
        rw [n8 b n2]
        exact e
      have off : ∀ b, b ∈ l :: flat as → b ≠ p := fun b hb z => np (z ▸ hb)
      have hA12 : ShAt (upd H11 a.d (.dK (shKV { c with lb := some (x, u) } a))) a { c with lb := some (x, u) } := ⟨upd_same, k78 _ _ (off _ (List.mem_cons_of_mem _ mt)) ad1.symm hA7.2.1, k78 _ _ (off _ (List.mem_cons_of_mem _ mf)) ad2.symm hA7.2.2⟩
      have hs12 : Shs (upd H11 a.d (.dK (shKV { c with lb := some (x, u) } a))) l as (cs1.set j { c with lb := some (x, u) }) := by
        refine Shs.set (H := fun b => if b = p then none else H7 b) (hs7.at fun b hb o e => ?_) ea hA12 fun b o n1 _ _ e => ?_
        · show (if b = p then none else H7 b) = some o
          rw [if_neg (off b hb)]
          exact e
        · by_cases z : b = p
          · rw [show (if b = p then none else H7 b) = none from if_pos z] at e
            cases e
          · rw [show (if b = p then none else H7 b) = H7 b from if_neg z] at e
            exact k78 b o z n1 e
      refine ⟨_, _, _, _, _, _, rfl, hp11.upd npd, ((k08.trans (KD.kept K8 List.mem_cons_self)).upd (List.mem_cons_of_mem _ (List.mem_cons_of_mem _ md))), hs12, by rw [List.length_set]; exact l1, fun i c0 e0 => ?_⟩
      by_cases z : j = i
      · subst z
        rw [ec] at e0
        cases e0
        exact ⟨_, List.getElem?_set_self (by omega), fun _ => ⟨x, u, rfl, x99, u4, x0⟩, fun h => absurd h (by omega)⟩
      · obtain ⟨c1, e1, i1, i2⟩ := inv i c0 e0
        exact ⟨c1, by rw [List.getElem?_set_ne z]; exact e1, fun h => i1 (by omega), fun h => i2 (by omega)⟩
    · rintro σ G ⟨w3, w4, w5, w6, b, cs1, rfl, hpG, kG, hsG, l1, inv⟩
      rw [List.length_map] at inv
      refine kk cs1 _ l1 (fun i c e => ?_) hsG hpG kG
      obtain ⟨c1, e1, h, _⟩ := inv i c e
      exact ⟨c1, e1, h (by have := (List.getElem?_eq_some_iff.mp e).1; omega)⟩
end
end Sw
namespace Sw
open PySem PySem.Spec PyProof.Rows L2
/-! ### the wires -/
def nmAt (ns : List Str) (k : Nat) : Str := (ns[k]?).getD (Str.ofString "")
def wRow (ns : List Str) (ds : List Nat) (fd : List Nat) (k n : Nat) : Nat → List Wr
  | 0 => []
  | m + 1 => wRow ns ds fd k n m ++ [⟨nmAt ns ((fd[m]?).getD 0), nmAt ns k, m, (ds[n + m]?).getD 0⟩]
def fdAt (cs : List Shp) (j : Nat) : List Nat := ((cs[j]?).map Shp.fd).getD []
def wPart (ns : List Str) (ds : List Nat) (cs : List Shp) : Nat → List Wr
  | 0 => []
  | j + 1 => wPart ns ds cs j ++ wRow ns ds (fdAt cs j) j (wPart ns ds cs j).length (fdAt cs j).length
theorem wRow_len {ns : List Str} {ds fd : List Nat} {k n : Nat} : ∀ m, (wRow ns ds fd k n m).length = m
  | 0 => rfl
  | m + 1 => by
    rw [wRow, List.length_append, wRow_len m]
    rfl
theorem wPart_len {ns : List Str} {ds : List Nat} {cs : List Shp} : ∀ {j : Nat}, j ≤ cs.length → (wPart ns ds cs j).length = fdSum (cs.take j)
  | 0, _ => by rw [List.take_zero]; rfl
  | j + 1, h => by
    rw [wPart, List.length_append, wRow_len, wPart_len (by omega), List.take_add_one]
    have e : cs[j]? = some cs[j] := List.getElem?_eq_getElem (by omega)
    unfold fdAt
    rw [e]
    exact (fdSum_snoc _ _).symm
theorem fdSum_take (cs : List Shp) (j : Nat) : fdSum (cs.take j) ≤ fdSum cs := by
  have h : fdSum (cs.take j ++ cs.drop j) = fdSum (cs.take j) + fdSum (cs.drop j) := by
    unfold fdSum
    rw [List.map_append, List.sum_append]
  rw [List.take_append_drop] at h
  omega
theorem Al.perm {α β : Type} {R : α → β → Prop} {as as' : List α} (p : as'.Perm as) : ∀ {bs : List β}, Al R as bs → ∃ bs', bs'.Perm bs ∧ Al R as' bs' := by
  induction p with
  | nil => exact fun h => ⟨_, .refl _, h⟩
  | cons x _ ih =>
    intro bs h
    cases bs with
    | nil => exact h.elim
    | cons b bs =>
      obtain ⟨bs', q, h'⟩ := ih h.2
      exact ⟨b :: bs', q.cons b, h.1, h'⟩
  | swap x y l =>
    intro bs h
    match bs, h with
    | b :: c :: bs, h => exact ⟨c :: b :: bs, .swap b c bs, h.2.1, h.1, h.2.2⟩
  | trans _ _ ih1 ih2 =>
    intro bs h
    obtain ⟨b1, q1, h1⟩ := ih2 h
    obtain ⟨b2, q2, h2⟩ := ih1 h1
    exact ⟨b2, q2.trans q1, h2⟩
def spWires (K : PySem.W.Frag) : Sp := fun vs H Q _ => ∃ (p l nl dl : Addr) (as : List Ad) (cs : List Shp) (ns : List Str) (ds : List Nat), vs = [.ref p, .ref l, .ref nl, .ref dl] ∧ PotAt H p ∧ Shs H l as cs ∧ p ∉ l :: flat as ∧ H nl = some (.lst (ns.map V.str)) ∧ H dl = some (.lst (ds.map natV)) ∧ ns.length = cs.length ∧ cs.length ≤ 15 ∧ fdSum cs ≤ 48 ∧ ds.length = 48 ∧ (∀ c ∈ cs, ∀ k ∈ c.fd, k < cs.length) ∧
  ∀ (l' : Addr) (ws : List Wr) (H' : Hp), ws.Perm (wPart ns ds cs cs.length) → H l' = none → Kept p H H' → PotAt H' p → WiresAt K H' l' ws → Q (.ref l') H'
section
variable {P : Program} {w : World} {K : PySem.W.Frag} {mg : Str → Option Value} {base : Heap} {f f1 f2 f3 f4 f5 f6 f7 f8 f9 C CN CO CI CW dd : Addr} {cl : Srt → Addr} {fd fd1 fd2 fd3 fd4 fd5 fd6 fd7 fd8 fd9 : FuncData}
abbrev nLWires : List Str := ["_law_pot_here", "_law_shapes_here", "_law_names_here", "_law_delays_here", "_law_wires_here", "_law_k", "_law_one", "_law_place", "_law_at"]
theorem scLWires : FnScope nLWires ["_law_pot_here", "_law_shapes_here", "_law_names_here", "_law_delays_here"] (defScope sLWires) := ⟨rfl, rfl, rfl, by decide +kernel, rfl, by decide +kernel, by decide +kernel⟩
theorem ok_wires (F : FnP K "_law_wires" sLWires f fd) (GM : FnOk P w K mg base CX0 2 f1 fd1 ["_law_pot_here", "_law_some"] (spMixed K)) (gM : mg "_law_mixed" = some (.ref f1)) (kM : PySem.W.keepIn K (.ref f1) = true) (bM : Binds K fd1 ["_law_pot_here", "_law_some"] []) (gEnumerate : mg "enumerate" = none) (gLen : mg "len" = none) : FnOk P w K mg base CX0 3 f fd ["_law_pot_here", "_law_shapes_here", "_law_names_here", "_law_delays_here"] (spWires K) := by
  refine F.ok scLWires (fun vs H Q E h => ?_) (fun cdv A ou s H vs Q E hr h => ?_)
  · obtain ⟨p, l, nl, dl, as, cs, ns, ds, rfl, _⟩ := h
    rfl
  · obtain ⟨p, l, nl, dl, as, cs, ns, ds, rfl, hp, hs, np, hn, hd, nlen, few, sum, dlen, fdk, kk⟩ := h
    have nd := scLWires.nd
    have hr2 : Room 2 _ := hr
    have hu := hu_of hr
    have hu6 := hr.units
    refine ⟨_, PSs.nox (pss_cons (ps_set (i := 4) nd rfl (Or.inl rfl) (pe_lst pa_nil))
      (pss_cons (ps_for PassesOwn.never rfl (pi_enum (by rfl) gEnumerate (pa_cons (pv 1) pa_nil)) (pg_tup rfl (pgs_cons (pg_name (i := 5) nd rfl (Or.inl rfl)) (pgs_cons (pg_name (i := 6) nd rfl (Or.inl rfl)) pgs_nil)))
      (pss_one (ps_for PassesOwn.never rfl (pi_enum (by rfl) gEnumerate (pa_cons (pe_dget hu (pv 6) pe_str (fun _ _ => rfl)) pa_nil)) (pg_tup rfl (pgs_cons (pg_name (i := 7) nd rfl (Or.inl rfl)) (pgs_cons (pg_name (i := 8) nd rfl (Or.inl rfl)) pgs_nil)))
      (pss_one (ps_expr (pe_bm PySem.F.plainAttrs_list PySem.F.slot_list_append PySem.F.type_list_append mt_append (pv 4) (pa_cons (pe_tup (pa_cons (pe_ix ix_list (pv 2) (pv 8) (fun _ _ => rfl)) (pa_cons (pe_ix ix_list (pv 2) (pv 5) (fun _ _ => rfl)) (pa_cons (pv 7) (pa_cons (pe_ix ix_list (pv 3) (pe_callB call_len_seq (by rfl) gLen PySem.boot_len (pa_cons (pv 4) pa_nil)) (fun _ _ => rfl)) pa_nil))))) pa_nil)))))))
      (pss_one (ps_ret (pe_call GM hr2 rfl gM kM bM .nil pass0 (pa_cons (pv 0) (pa_cons (pv 4) pa_nil))))))), ?_⟩
    refine ⟨by decide, fun wl hwl => ?_⟩
    have lens := hs.2.1.len
    refine ⟨_, rfl, l, _, rfl, SqL.of ((Same.past (Same.refl H) hwl) _ _ hs.1), ?_⟩
    refine for_it (walk_enum (xs := as.map fun a => V.ref a.d)) (fun j σ G => ∃ (w5 w6 w7 w8 : Option V) (ps : List V), σ = [some (.ref p), some (.ref l), some (.ref nl), some (.ref dl), some (.ref wl), w5, w6, w7, w8] ∧ Same H G ∧ G wl = some (.lst ps) ∧ Al (WireAt K G) ps (wPart ns ds cs j)) ⟨_, _, _, _, [], rfl, Same.past (Same.refl H) hwl, upd_same, trivial⟩ (fun j σ G _ e => by obtain ⟨_, _, _, _, _, _, sm, _⟩ := e; exact SqL.of (sm _ _ hs.1)) ?_ ?_
    · rintro j v σ G G' hj ⟨w5, w6, w7, w8, ps, rfl, sG, hwG, alG⟩ ⟨TT, x1, x2, rfl, hTT, rfl, e1, e2⟩
      cases e1
      have e2 : (as.map fun a => V.ref a.d)[j]? = some x2 := e2
      rw [List.getElem?_map] at e2
      obtain ⟨a, ea, rfl⟩ := Option.map_eq_some_iff.mp e2
      obtain ⟨c, ec, hc⟩ := hs.2.1.get ea
      have jl := (List.getElem?_eq_some_iff.mp ec).1
      have sT := Same.new (o := .tup [V.int ((j : Nat) : Int), V.ref a.d]) (Same.refl G) hTT
      refine ⟨TT, _, rfl, .inl (.inl upd_same), rfl, _, _, rfl, _, _, rfl, rfl, ?_⟩
      have sGT := sG.trans sT
      have hwT := sT _ _ hwG
      have alT := alG.imp fun pp x ⟨q, e, h⟩ => (⟨q, e, Same.tup sT h⟩ : WireAt K _ pp x)
      generalize upd G TT (.tup [V.int ((j : Nat) : Int), V.ref a.d]) = GT at sT sGT hwT alT
      have fj : fdAt cs j = c.fd := by
        unfold fdAt
        rw [ec]
        rfl
      have pl : (wPart ns ds cs j).length + c.fd.length ≤ 48 := by
        have h1 := wPart_len (ns := ns) (ds := ds) (cs := cs) (j := j + 1) jl
        rw [wPart, List.length_append, wRow_len, fj] at h1
        rw [h1]
        exact Nat.le_trans (fdSum_take cs _) sum
      have hf := hc.2.2
      refine ⟨_, rfl, a.d, _, rfl, dg_feeds (hc.keep sGT), a.f, _, rfl, SqL.of (sGT _ _ hf), ?_⟩
      refine for_it (walk_enum (xs := c.fd.map natV)) (fun m σ G => ∃ (w7 w8 : Option V) (ps : List V), σ = [some (.ref p), some (.ref l), some (.ref nl), some (.ref dl), some (.ref wl), some (.int (j : Int)), some (.ref a.d), w7, w8] ∧ Same H G ∧ G wl = some (.lst ps) ∧ Al (WireAt K G) ps (wPart ns ds cs j ++ wRow ns ds c.fd j (wPart ns ds cs j).length m)) ⟨_, _, ps, rfl, sGT, hwT, by rw [wRow, List.append_nil]; exact alT⟩ (fun m σ G _ e => by obtain ⟨_, _, _, _, sm, _⟩ := e; exact SqL.of (sm _ _ hf)) ?_ ?_
      · rintro m v σ G G' hm ⟨w7, w8, ps, rfl, sG, hwG, alG⟩ ⟨TT, x1, x2, rfl, hTT, rfl, e1, e2⟩
        cases e1
        have e2 : (c.fd.map natV)[m]? = some x2 := e2
        rw [List.getElem?_map] at e2
        obtain ⟨k, ek, rfl⟩ := Option.map_eq_some_iff.mp e2
        have sT := Same.new (o := .tup [V.int ((m : Nat) : Int), natV k]) (Same.refl G) hTT
        refine ⟨TT, _, rfl, .inl (.inl upd_same), rfl, _, _, rfl, _, _, rfl, rfl, ?_⟩
        have sGT := sG.trans sT
        have hwT := sT _ _ hwG
        have alT := alG.imp fun pp x ⟨q, e, h⟩ => (⟨q, e, Same.tup sT h⟩ : WireAt K _ pp x)
        generalize upd G TT (.tup [V.int ((m : Nat) : Int), natV k]) = GT at sT sGT hwT alT
        have mlt := (List.getElem?_eq_some_iff.mp ek).1
        have plen : ps.length = (wPart ns ds cs j).length + m := by
          rw [alG.len, List.length_append, wRow_len]
        have klt : k < ns.length := by
          rw [nlen]
          exact fdk c (List.mem_of_getElem? ec) k (List.mem_of_getElem? ek)
        have en : (ns.map V.str)[k]? = some (.str (nmAt ns k)) := by
          unfold nmAt
          rw [List.getElem?_map, List.getElem?_eq_getElem klt]
          rfl
        have ej : (ns.map V.str)[j]? = some (.str (nmAt ns j)) := by
          unfold nmAt
          rw [List.getElem?_map, List.getElem?_eq_getElem (by omega)]
          rfl
        have ed : (ds.map natV)[ps.length]? = some (natV ((ds[(wPart ns ds cs j).length + m]?).getD 0)) := by
          rw [plen, List.getElem?_map, List.getElem?_eq_getElem (by omega)]
          rfl
        refine ⟨_, rfl, .inl ⟨rfl, _, SqL.of hwT⟩, ?_⟩
        refine ⟨_, rfl, _, rfl, nl, _, _, _, rfl, rfl, SqL.of (sGT _ _ hn), atI_nat en, ?_⟩
        refine ⟨_, rfl, _, rfl, nl, _, _, _, rfl, rfl, SqL.of (sGT _ _ hn), atI_nat ej, ?_⟩
        refine ⟨_, rfl, _, rfl, _, rfl, wl, _, rfl, .inl (SqL.of hwT), dl, _, _, _, rfl, rfl, SqL.of (sGT _ _ hd), atI_nat ed, (by show 4 ≤ sizeLine; decide), fun t ht => ?_⟩
        have s2 := Same.new (o := .tup [V.str (nmAt ns k), V.str (nmAt ns j), V.int (m : Int), natV ((ds[(wPart ns ds cs j).length + m]?).getD 0)]) (Same.refl GT) ht
        have g2 : SqT K (upd GT t (.tup [V.str (nmAt ns k), V.str (nmAt ns j), V.int (m : Int), natV ((ds[(wPart ns ds cs j).length + m]?).getD 0)])) t [V.str (nmAt ns k), V.str (nmAt ns j), V.int (m : Int), natV ((ds[(wPart ns ds cs j).length + m]?).getD 0)] := SqT.of upd_same
        have hw2 := s2 _ _ hwT
        have sG2 := sGT.trans s2
        have al2 := alT.imp fun pp x ⟨q, e, h⟩ => (⟨q, e, Same.tup s2 h⟩ : WireAt K _ pp x)
        refine ⟨wl, ps, .ref t, rfl, rfl, hw2, Nat.lt_of_lt_of_le (show ps.length < 100 by omega) (by decide), ?_⟩
        refine ⟨_, _, ps ++ [.ref t], rfl, Same.past sG2 hwl, upd_same, ?_⟩
        rw [wRow, ← List.append_assoc]
        have fm : (c.fd[m]?).getD 0 = k := by rw [ek]; rfl
        rw [fm]
        exact Al.snoc ⟨t, rfl, KT.lst hw2 _ _ g2⟩ (al2.imp fun pp x ⟨q, e, h⟩ => ⟨q, e, KT.lst hw2 _ _ h⟩)
      · rintro σ G ⟨w7, w8, ps, rfl, sG, hwG, alG⟩
        refine ⟨_, _, _, _, ps, rfl, sG, hwG, ?_⟩
        rw [wPart, fj]
        rw [List.length_map] at alG
        exact alG
    · rintro σ G ⟨w5, w6, w7, w8, ps, rfl, sG, hwG, alG⟩
      rw [List.length_map, lens] at alG
      have hpG := hp.keep sG
      have pl : ps.length ≤ 48 := by
        rw [alG.len, wPart_len (Nat.le_refl _)]
        exact Nat.le_trans (fdSum_take cs _) sum
      refine ⟨_, rfl, _, rfl, p, wl, ps, rfl, hpG, hp.ne hwl, hwG, by omega, fun l' ys H' pm n k hp' hl' => ?_⟩
      obtain ⟨ws, pw, alw⟩ := Al.perm pm alG
      exact kk l' ws H' pw ((Kept.same sG).free hpG n) ((Kept.same sG).trans k) hp' ⟨ys, hl', alw.imp fun pp x ⟨q, e, h⟩ => ⟨q, e, KT.kept k hpG _ _ h⟩⟩
end
end Sw
namespace Sw
open PySem PySem.Spec PyProof.Rows L2
/-! ### the sorts that a shape may be of -/
def txt : Srt → Str
  | .inlet => "inlet"
  | .outlet => "outlet"
  | .gain => "gain"
  | .mix => "mix"
  | .times => "times"
  | .clip => "clip"
  | .share => "share"
  | .choose => "choose"
  | .own => "own"
  | .taps => "taps"
  | .latch => "latch"
  | .count => "tally"
  | .tape => "tape"
  | .up => "up"
  | .down => "down"
  | .resample => "resample"
def Fit (tk : List Nat) (gv : Nat) : Srt → Prop
  | .inlet => tk = []
  | .outlet => tk ≠ [] ∧ gv = 0
  | .own => tk ≠ [] ∧ 0 < gv
  | .resample => tk.length = 1 ∧ 0 < gv
  | .up => tk = [1] ∧ 0 < gv
  | .down => tk.length = 1 ∧ gv = 1
  | .mix => tk ≠ [] ∧ gv = 1 ∧ ∀ t ∈ tk, t = 1
  | .times => tk = [1, 1] ∧ gv = 1
  | .latch => tk = [1, 1] ∧ gv = 1
  | .choose => tk = [1, 1, 1] ∧ gv = 1
  | _ => tk = [1] ∧ gv = 1
def txV (ss : List Srt) : List V := ss.map fun s => V.str (txt s)
theorem txV_app (a b : List Srt) : txV a ++ txV b = txV (a ++ b) := by
  unfold txV
  rw [List.map_append]
theorem ones_four : ∀ {tk : List Nat}, tk ≠ [] → tk.length ≤ 4 → (∀ t ∈ tk, t = 1) → tk = [1] ∨ tk = [1, 1] ∨ tk = [1, 1, 1] ∨ tk = [1, 1, 1, 1] := by
  intro tk ne l h
  have e : tk = List.replicate tk.length 1 := List.eq_replicate_iff.mpr ⟨rfl, h⟩
  have p := List.length_pos_iff.mpr ne
  have : tk.length = 1 ∨ tk.length = 2 ∨ tk.length = 3 ∨ tk.length = 4 := by omega
  rcases this with q | q | q | q <;> rw [q] at e <;> rw [e] <;> simp [List.replicate]
def spSorts (K : PySem.W.Frag) : Sp := fun vs H Q _ => ∃ (l : Addr) (tk : List Nat) (gv : Nat), vs = [.ref l, .int (gv : Int)] ∧ H l = some (.lst (tk.map natV)) ∧ tk.length ≤ 4 ∧ (∀ t ∈ tk, Dig t) ∧ ∀ (l' : Addr) (ss : List Srt) (H' : Hp), Same H H' → H' l' = some (.lst (txV ss)) → ss ≠ [] → ss.length ≤ 15 → (∀ s ∈ ss, Fit tk gv s) → Q (.ref l') H'
section
variable {P : Program} {w : World} {K : PySem.W.Frag} {mg : Str → Option Value} {base : Heap} {f f1 f2 f3 f4 f5 f6 f7 f8 f9 C CN CO CI CW dd : Addr} {cl : Srt → Addr} {fd fd1 fd2 fd3 fd4 fd5 fd6 fd7 fd8 fd9 : FuncData}
abbrev nLSorts : List Str := ["_law_takes", "_law_gives", "_law_some", "_law_steady"]
theorem scLSorts : FnScope nLSorts ["_law_takes", "_law_gives"] (defScope sLSorts) := ⟨rfl, rfl, rfl, by decide +kernel, rfl, by decide +kernel, by decide +kernel⟩
theorem ok_sorts (F : FnP K "_law_sorts" sLSorts f fd) (gInt : mg "int" = none) (gMax : mg "max" = none) (gLen : mg "len" = none) : FnOk P w K mg base CX0 1 f fd ["_law_takes", "_law_gives"] (spSorts K) := by
  refine F.ok scLSorts (fun vs H Q E h => ?_) (fun cdv A ou s H vs Q E hr h => ?_)
  · obtain ⟨l, tk, gv, rfl, _⟩ := h
    rfl
  · obtain ⟨l, tk, gv, rfl, hl, tl, tok, kk⟩ := h
    have nd := scLSorts.nd
    have hu := hu_of hr
    have hu6 := hr.units
    refine ⟨_, PSs.nox (pss_cons (ps_if (pt_cmpR (op_eqD hu6) (pv 0) (pe_lst pa_nil) (nomark _)) (pss_one (ps_ret (pe_lst (pa_cons pe_str pa_nil)))) pss_nil)
      (pss_cons (ps_if (pt_cmpR op_eq (pv 1) pe_int (nomark _)) (pss_one (ps_ret (pe_lst (pa_cons pe_str pa_nil)))) pss_nil)
      (pss_cons (ps_set (i := 2) nd rfl (Or.inl rfl) (pe_lst (pa_cons pe_str pa_nil)))
      (pss_cons (ps_if (pt_cmpR op_eq (pe_callB call_len_seq (by rfl) gLen PySem.boot_len (pa_cons (pv 0) pa_nil)) pe_int (nomark _)) (pss_one (ps_set (i := 2) nd rfl (Or.inl rfl) (pe_op op_cat (pe_op op_cat (pe_op op_cat (pv 2) (pe_lst (pa_cons pe_str pa_nil))) (pe_op op_rep (pe_lst (pa_cons pe_str pa_nil)) (pe_callTy call_int1 (by rfl) gInt PyProof.Rows.boot_int (pa_cons (pe_cmpR op_eq (pe_ix ix_list (pv 0) pe_int (fun _ _ => rfl)) pe_int (nomark _)) pa_nil)))) (pe_op op_rep (pe_lst (pa_cons pe_str pa_nil)) (pe_callTy call_int1 (by rfl) gInt PyProof.Rows.boot_int (pa_cons (pe_cmpR op_eq (pv 1) pe_int (nomark _)) pa_nil)))))) pss_nil)
      (pss_cons (ps_if (PW.pt (pw_and (pt_cmpR op_eq (pv 1) pe_int (nomark _)) (pw_and1 (pt_cmpR op_eq (pe_callB (cr_max rfl) (by rfl) gMax (by decide +kernel) (pa_cons (pv 0) pa_nil)) pe_int (nomark _))))) (pss_cons (ps_set (i := 3) nd rfl (Or.inl rfl) (pe_lst (pa_cons (pe_lst (pa_cons pe_str (pa_cons pe_str (pa_cons pe_str (pa_cons pe_str (pa_cons pe_str (pa_cons pe_str pa_nil))))))) (pa_cons (pe_lst (pa_cons pe_str (pa_cons pe_str pa_nil))) (pa_cons (pe_lst (pa_cons pe_str pa_nil)) (pa_cons (pe_lst pa_nil) pa_nil))))))
      (pss_one (ps_set (i := 2) nd rfl (Or.inl rfl) (pe_op op_cat (pe_op op_cat (pv 2) (pe_ix ix_list (pv 3) (pe_op op_sub (pe_callB call_len_seq (by rfl) gLen PySem.boot_len (pa_cons (pv 0) pa_nil)) pe_int) (fun _ _ => rfl))) (pe_lst (pa_cons pe_str pa_nil)))))) pss_nil)
      (pss_one (ps_ret (pv 2)))))))), ?_⟩
    refine ⟨_, rfl, (by show 0 ≤ sizeLine; decide), fun l0 h0 => ?_⟩
    have s3 := Same.new (o := .lst []) (Same.refl H) h0
    have g3 : upd H l0 (.lst []) l0 = some (.lst []) := upd_same
    generalize upd H l0 (.lst []) = H3 at s3 g3
    refine ⟨.list (tk.map natD), .list [], .lst (SqL.of (s3 _ _ hl)) (nats_dp _), .lst (SqL.of g3) .nil, nats_shaped _, rfl, _, rfl, ?_⟩
    rw [eqv_nil]
    refine ite2 (fun z => ?_) (fun z => ?_)
    · have t0 : tk = [] := by
        cases tk with
        | nil => rfl
        | cons t r => cases z
      refine ⟨(by show 1 ≤ sizeLine; decide), fun q hq => ?_⟩
      exact kk q [.inlet] _ (Same.new s3 hq) upd_same (by simp) (by decide) fun s hs => by
        rw [List.mem_singleton.mp hs]
        exact t0
    have tne : tk ≠ [] := fun q => by
      rw [q] at z
      exact z rfl
    refine ⟨_, rfl, rfl, _, rfl, ?_⟩
    refine ite2 (fun z => ?_) (fun z => ?_)
    · have z := of_decide_eq_true z
      refine ⟨(by show 1 ≤ sizeLine; decide), fun q hq => ?_⟩
      exact kk q [.outlet] _ (Same.new s3 hq) upd_same (by simp) (by decide) fun s hs => by
        rw [List.mem_singleton.mp hs]
        exact ⟨tne, by injection z with z; omega⟩
    have g0 : 0 < gv := by
      rcases Nat.eq_zero_or_pos gv with h | h
      · rw [h] at z
        exact absurd (decide_eq_true rfl) z
      · exact h
    refine ⟨(by show 1 ≤ sizeLine; decide), fun q hq => ?_⟩
    have s4 := Same.new (o := .lst [V.str "own"]) s3 hq
    have g4 : upd H3 q (.lst [V.str "own"]) q = some (.lst [V.str "own"]) := upd_same
    generalize upd H3 q (.lst [V.str "own"]) = H4 at s4 g4
    have hl4 := s4 _ _ hl
    refine ⟨_, rfl, l, _, rfl, .inl (SqL.of hl4), rfl, _, rfl, ?_⟩
    refine ite2 (fun z => ?_) (fun z => ?_)
    · have z := of_decide_eq_true z
      injection z with z
      rw [List.length_map] at z
      obtain ⟨t, rfl⟩ := List.length_eq_one_iff.mp (by omega : tk.length = 1)
      have eU : (List.replicate (if decide (natV t = V.int 1) = true then (1 : Int) else 0).toNat [V.str "up"]).flatten = txV (if t = 1 then [.up] else []) := by
        by_cases h : t = 1
        · subst h
          rfl
        · rw [if_neg h, if_neg fun e => h (by have := of_decide_eq_true e; injection this; omega)]
          rfl
      have eD : (List.replicate (if decide (V.int (gv : Int) = V.int 1) = true then (1 : Int) else 0).toNat [V.str "down"]).flatten = txV (if gv = 1 then [.down] else []) := by
        by_cases h : gv = 1
        · subst h
          rfl
        · rw [if_neg h, if_neg fun e => h (by have := of_decide_eq_true e; injection this; omega)]
          rfl
      refine ⟨_, rfl, (by show 1 ≤ sizeLine; decide), fun q1 hq1 => ?_⟩
      have s5 := Same.new (o := .lst [V.str "resample"]) s4 hq1
      have gq1 : upd H4 q1 (.lst [V.str "resample"]) q1 = some (.lst [V.str "resample"]) := upd_same
      have k5 := Same.new (o := .lst [V.str "resample"]) (Same.refl H4) hq1
      generalize upd H4 q1 (.lst [V.str "resample"]) = H5 at s5 gq1 k5
      refine ⟨q, q1, _, _, rfl, rfl, k5 _ _ g4, gq1, (by show 2 ≤ sizeLine; decide), fun q2 hq2 => ?_⟩
      have s6 := Same.new (o := .lst ([V.str "own"] ++ [V.str "resample"])) s5 hq2
      have gq2 : upd H5 q2 (.lst ([V.str "own"] ++ [V.str "resample"])) q2 = some (.lst ([V.str "own"] ++ [V.str "resample"])) := upd_same
      have k6 := Same.new (o := .lst ([V.str "own"] ++ [V.str "resample"])) (Same.refl H5) hq2
      generalize upd H5 q2 (.lst ([V.str "own"] ++ [V.str "resample"])) = H6 at s6 gq2 k6
      refine ⟨(by show 1 ≤ sizeLine; decide), fun q3 hq3 => ?_⟩
      have s7 := Same.new (o := .lst [V.str "up"]) s6 hq3
      have gq3 : upd H6 q3 (.lst [V.str "up"]) q3 = some (.lst [V.str "up"]) := upd_same
      have k7 := Same.new (o := .lst [V.str "up"]) (Same.refl H6) hq3
      generalize upd H6 q3 (.lst [V.str "up"]) = H7 at s7 gq3 k7
      refine ⟨_, rfl, l, _, _, _, rfl, rfl, SqL.of (s7 _ _ hl), atI_nat (j := 0) rfl, rfl, .inr ⟨_, rfl, q3, _, _, rfl, rfl, gq3, ?_, ?_, ?_, fun q4 hq4 => ?_⟩⟩
      · split <;> decide
      · split <;> decide
      · split <;> decide
      dsimp only
      rw [eU]
      have s8 := Same.new (o := .lst (txV (if t = 1 then [.up] else []))) s7 hq4
      have gq4 : upd H7 q4 (.lst (txV (if t = 1 then [.up] else []))) q4 = some (.lst (txV (if t = 1 then [.up] else []))) := upd_same
      have k8 := Same.new (o := .lst (txV (if t = 1 then [.up] else []))) (Same.refl H7) hq4
      generalize upd H7 q4 (.lst (txV (if t = 1 then [.up] else []))) = H8 at s8 gq4 k8
      refine ⟨q2, q4, _, _, rfl, rfl, k8 _ _ (k7 _ _ gq2), gq4, ?_, fun q5 hq5 => ?_⟩
      · split <;> decide
      have s9 := Same.new (o := .lst ([V.str "own"] ++ [V.str "resample"] ++ txV (if t = 1 then [.up] else []))) s8 hq5
      have gq5 : upd H8 q5 (.lst ([V.str "own"] ++ [V.str "resample"] ++ txV (if t = 1 then [.up] else []))) q5 = some (.lst ([V.str "own"] ++ [V.str "resample"] ++ txV (if t = 1 then [.up] else []))) := upd_same
      have k9 := Same.new (o := .lst ([V.str "own"] ++ [V.str "resample"] ++ txV (if t = 1 then [.up] else []))) (Same.refl H8) hq5
      generalize upd H8 q5 (.lst ([V.str "own"] ++ [V.str "resample"] ++ txV (if t = 1 then [.up] else []))) = H9 at s9 gq5 k9
      refine ⟨(by show 1 ≤ sizeLine; decide), fun q6 hq6 => ?_⟩
      have s10 := Same.new (o := .lst [V.str "down"]) s9 hq6
      have gq6 : upd H9 q6 (.lst [V.str "down"]) q6 = some (.lst [V.str "down"]) := upd_same
      have k10 := Same.new (o := .lst [V.str "down"]) (Same.refl H9) hq6
      generalize upd H9 q6 (.lst [V.str "down"]) = H10 at s10 gq6 k10
      refine ⟨_, rfl, rfl, .inr ⟨_, rfl, q6, _, _, rfl, rfl, gq6, ?_, ?_, ?_, fun q7 hq7 => ?_⟩⟩
      · split <;> decide
      · split <;> decide
      · split <;> decide
      dsimp only
      rw [eD]
      have s11 := Same.new (o := .lst (txV (if gv = 1 then [.down] else []))) s10 hq7
      have gq7 : upd H10 q7 (.lst (txV (if gv = 1 then [.down] else []))) q7 = some (.lst (txV (if gv = 1 then [.down] else []))) := upd_same
      have k11 := Same.new (o := .lst (txV (if gv = 1 then [.down] else []))) (Same.refl H10) hq7
      generalize upd H10 q7 (.lst (txV (if gv = 1 then [.down] else []))) = H11 at s11 gq7 k11
      refine ⟨q5, q7, _, _, rfl, rfl, k11 _ _ (k10 _ _ gq5), gq7, ?_, fun q8 hq8 => ?_⟩
      · split <;> split <;> decide
      have s12 := Same.new (o := .lst ([V.str "own"] ++ [V.str "resample"] ++ txV (if t = 1 then [.up] else []) ++ txV (if gv = 1 then [.down] else []))) s11 hq8
      have gq8 : upd H11 q8 (.lst ([V.str "own"] ++ [V.str "resample"] ++ txV (if t = 1 then [.up] else []) ++ txV (if gv = 1 then [.down] else []))) q8 = some (.lst ([V.str "own"] ++ [V.str "resample"] ++ txV (if t = 1 then [.up] else []) ++ txV (if gv = 1 then [.down] else []))) := upd_same
      have k12 := Same.new (o := .lst ([V.str "own"] ++ [V.str "resample"] ++ txV (if t = 1 then [.up] else []) ++ txV (if gv = 1 then [.down] else []))) (Same.refl H11) hq8
      generalize upd H11 q8 (.lst ([V.str "own"] ++ [V.str "resample"] ++ txV (if t = 1 then [.up] else []) ++ txV (if gv = 1 then [.down] else []))) = H12 at s12 gq8 k12
      have hq0 : H12 q8 = some (.lst (txV ([.own, .resample] ++ (if t = 1 then [.up] else []) ++ (if gv = 1 then [.down] else [])))) := by
        rw [← txV_app, ← txV_app]
        exact gq8
      have fit : ∀ s ∈ ([.own, .resample] ++ (if t = 1 then [.up] else []) ++ (if gv = 1 then [.down] else []) : List Srt), Fit [t] gv s := fun s hs => by
        rcases List.mem_append.mp hs with hs | hs
        · rcases List.mem_append.mp hs with hs | hs
          · simp only [List.mem_cons, List.not_mem_nil, or_false] at hs
            rcases hs with rfl | rfl
            · exact ⟨tne, g0⟩
            · exact ⟨rfl, g0⟩
          · split at hs
            · rename_i h1
              rw [List.mem_singleton.mp hs, h1]
              exact ⟨rfl, g0⟩
            · cases hs
        · split at hs
          · rename_i h1
            rw [List.mem_singleton.mp hs]
            exact ⟨rfl, h1⟩
          · cases hs
      have len : ([.own, .resample] ++ (if t = 1 then [.up] else []) ++ (if gv = 1 then [.down] else []) : List Srt).length ≤ 4 := by
        split <;> split <;> decide
      have ne : ([.own, .resample] ++ (if t = 1 then [.up] else []) ++ (if gv = 1 then [.down] else []) : List Srt) ≠ [] := by simp
      generalize ([.own, .resample] ++ (if t = 1 then [.up] else []) ++ (if gv = 1 then [.down] else []) : List Srt) = ss at hq0 fit len ne
      clear eU eD
      generalize hT : [t] = tk at *
      refine ⟨_, rfl, rfl, _, rfl, ?_⟩
      refine ite2 (fun z => ?_) (fun z => ⟨_, rfl, kk q8 ss _ s12 hq0 ne (by omega) fit⟩)
      have gv1 : gv = 1 := by
        have := of_decide_eq_true z
        injection this
        omega
      have ef : tk.map natV = (tk.map fun (n : Nat) => (n : Int)).map V.int := by rw [List.map_map]; rfl
      have hli := s12 _ _ hl
      rw [ef] at hli
      refine ⟨_, rfl, l, _, rfl, SqL.of hli, by rw [List.length_map]; exact List.length_pos_iff.mpr tne, fun m hm hall => ⟨rfl, _, rfl, ?_⟩⟩
      refine ite2 (fun z => ?_) (fun z => ⟨_, rfl, kk q8 ss _ s12 hq0 ne (by omega) fit⟩)
      have m1 : m = 1 := by
        have := of_decide_eq_true z
        injection this
      subst m1
      have ones : ∀ t ∈ tk, t = 1 := fun t ht => by
        have h1 := hall (t : Int) (List.mem_map.mpr ⟨t, ht, rfl⟩)
        have h2 := (tok t ht).1
        omega
      refine ⟨(by show 6 ≤ sizeLine; decide), fun r1 hr1 => ?_⟩
      have s13 := Same.new (o := .lst [V.str "gain", V.str "clip", V.str "share", V.str "taps", V.str "tally", V.str "tape"]) s12 hr1
      have gr1 : upd H12 r1 (.lst [V.str "gain", V.str "clip", V.str "share", V.str "taps", V.str "tally", V.str "tape"]) r1 = some (.lst [V.str "gain", V.str "clip", V.str "share", V.str "taps", V.str "tally", V.str "tape"]) := upd_same
      have k13 := Same.new (o := .lst [V.str "gain", V.str "clip", V.str "share", V.str "taps", V.str "tally", V.str "tape"]) (Same.refl H12) hr1
      generalize upd H12 r1 (.lst [V.str "gain", V.str "clip", V.str "share", V.str "taps", V.str "tally", V.str "tape"]) = H13 at s13 gr1 k13
      refine ⟨(by show 2 ≤ sizeLine; decide), fun r2 hr2 => ?_⟩
      have s14 := Same.new (o := .lst [V.str "times", V.str "latch"]) s13 hr2
      have gr2 : upd H13 r2 (.lst [V.str "times", V.str "latch"]) r2 = some (.lst [V.str "times", V.str "latch"]) := upd_same
      have k14 := Same.new (o := .lst [V.str "times", V.str "latch"]) (Same.refl H13) hr2
      generalize upd H13 r2 (.lst [V.str "times", V.str "latch"]) = H14 at s14 gr2 k14
      refine ⟨(by show 1 ≤ sizeLine; decide), fun r3 hr3 => ?_⟩
      have s15 := Same.new (o := .lst [V.str "choose"]) s14 hr3
      have gr3 : upd H14 r3 (.lst [V.str "choose"]) r3 = some (.lst [V.str "choose"]) := upd_same
      have k15 := Same.new (o := .lst [V.str "choose"]) (Same.refl H14) hr3
      generalize upd H14 r3 (.lst [V.str "choose"]) = H15 at s15 gr3 k15
      refine ⟨(by show 0 ≤ sizeLine; decide), fun r4 hr4 => ?_⟩
      have s16 := Same.new (o := .lst []) s15 hr4
      have gr4 : upd H15 r4 (.lst []) r4 = some (.lst []) := upd_same
      have k16 := Same.new (o := .lst []) (Same.refl H15) hr4
      generalize upd H15 r4 (.lst []) = H16 at s16 gr4 k16
      refine ⟨(by show 4 ≤ sizeLine; decide), fun r5 hr5 => ?_⟩
      have s17 := Same.new (o := .lst [V.ref r1, V.ref r2, V.ref r3, V.ref r4]) s16 hr5
      have gr5 : upd H16 r5 (.lst [V.ref r1, V.ref r2, V.ref r3, V.ref r4]) r5 = some (.lst [V.ref r1, V.ref r2, V.ref r3, V.ref r4]) := upd_same
      have k17 := Same.new (o := .lst [V.ref r1, V.ref r2, V.ref r3, V.ref r4]) (Same.refl H16) hr5
      generalize upd H16 r5 (.lst [V.ref r1, V.ref r2, V.ref r3, V.ref r4]) = H17 at s17 gr5 k17
      obtain ⟨r, sx, er, gr, sxl, sxf⟩ : ∃ (r : Addr) (sx : List Srt), atI [V.ref r1, V.ref r2, V.ref r3, V.ref r4] (((tk.map natV).length : Int) - 1) = some (.ref r) ∧ H17 r = some (.lst (txV sx)) ∧ sx.length ≤ 6 ∧ ∀ s ∈ sx, Fit tk gv s := by
        have t4 : tk = [1] ∨ tk = [1, 1] ∨ tk = [1, 1, 1] ∨ tk = [1, 1, 1, 1] := ones_four tne tl ones
        rcases t4 with h | h | h | h
        · refine ⟨r1, [.gain, .clip, .share, .taps, .count, .tape], by rw [h]; rfl, k17 _ _ (k16 _ _ (k15 _ _ (k14 _ _ gr1))), by decide, fun s hs => ?_⟩
          simp only [List.mem_cons, List.not_mem_nil, or_false] at hs
          rcases hs with rfl | rfl | rfl | rfl | rfl | rfl <;> exact ⟨h, gv1⟩
        · refine ⟨r2, [.times, .latch], by rw [h]; rfl, k17 _ _ (k16 _ _ (k15 _ _ gr2)), by decide, fun s hs => ?_⟩
          simp only [List.mem_cons, List.not_mem_nil, or_false] at hs
          rcases hs with rfl | rfl <;> exact ⟨h, gv1⟩
        · refine ⟨r3, [.choose], by rw [h]; rfl, k17 _ _ (k16 _ _ gr3), by decide, fun s hs => ?_⟩
          rw [List.mem_singleton.mp hs]
          exact ⟨h, gv1⟩
        · exact ⟨r4, [], by rw [h]; rfl, k17 _ _ gr4, by decide, fun s hs => by cases hs⟩
      have hq5 := k17 _ _ (k16 _ _ (k15 _ _ (k14 _ _ (k13 _ _ hq0))))
      have lx : (txV sx).length ≤ 6 := by
        unfold txV
        rw [List.length_map]
        exact sxl
      have ls : (txV ss).length ≤ 4 := by
        unfold txV
        rw [List.length_map]
        exact len
      refine ⟨_, rfl, _, rfl, _, rfl, l, _, rfl, .inl (SqL.of (s17 _ _ hl)), _, _, rfl, rfl, r5, _, _, _, rfl, rfl, SqL.of gr5, er, q8, r, _, _, rfl, rfl, hq5, gr, Nat.le_trans (show (txV ss).length + (txV sx).length ≤ 10 by omega) (by decide), fun r6 hr6 => ?_⟩
      have s18 := Same.new (o := .lst (txV ss ++ txV sx)) s17 hr6
      have gr6 : upd H17 r6 (.lst (txV ss ++ txV sx)) r6 = some (.lst (txV ss ++ txV sx)) := upd_same
      have k18 := Same.new (o := .lst (txV ss ++ txV sx)) (Same.refl H17) hr6
      generalize upd H17 r6 (.lst (txV ss ++ txV sx)) = H18 at s18 gr6 k18
      refine ⟨(by show 1 ≤ sizeLine; decide), fun r7 hr7 => ?_⟩
      have s19 := Same.new (o := .lst [V.str "mix"]) s18 hr7
      have gr7 : upd H18 r7 (.lst [V.str "mix"]) r7 = some (.lst [V.str "mix"]) := upd_same
      have k19 := Same.new (o := .lst [V.str "mix"]) (Same.refl H18) hr7
      generalize upd H18 r7 (.lst [V.str "mix"]) = H19 at s19 gr7 k19
      refine ⟨r6, r7, _, _, rfl, rfl, k19 _ _ gr6, gr7, Nat.le_trans (show (txV ss ++ txV sx).length + 1 ≤ 11 by rw [List.length_append]; omega) (by decide), fun r8 hr8 => ?_⟩
      refine ⟨_, rfl, kk r8 (ss ++ sx ++ [.mix]) _ (Same.new s19 hr8) ?_ (by simp) ?_ fun s hs => ?_⟩
      · rw [← txV_app, ← txV_app]
        exact upd_same
      · rw [List.length_append, List.length_append]
        show _ + 1 ≤ 15
        omega
      · rcases List.mem_append.mp hs with hs | hs
        · rcases List.mem_append.mp hs with hs | hs
          · exact fit s hs
          · exact sxf s hs
        · rw [List.mem_singleton.mp hs]
          exact ⟨tne, gv1, ones⟩
    · have fit : ∀ s ∈ ([.own] : List Srt), Fit tk gv s := fun s hs => by
        rw [List.mem_singleton.mp hs]
        exact ⟨tne, g0⟩
      have hq0 : H4 q = some (.lst (txV [.own])) := g4
      have len : ([.own] : List Srt).length ≤ 4 := by decide
      have ne : ([.own] : List Srt) ≠ [] := by simp
      generalize ([.own] : List Srt) = ss at hq0 fit len ne
      refine ⟨_, rfl, rfl, _, rfl, ?_⟩
      refine ite2 (fun z => ?_) (fun z => ⟨_, rfl, kk q ss _ s4 hq0 ne (by omega) fit⟩)
      have gv1 : gv = 1 := by
        have := of_decide_eq_true z
        injection this
        omega
      have ef : tk.map natV = (tk.map fun (n : Nat) => (n : Int)).map V.int := by rw [List.map_map]; rfl
      have hli := s4 _ _ hl
      rw [ef] at hli
      refine ⟨_, rfl, l, _, rfl, SqL.of hli, by rw [List.length_map]; exact List.length_pos_iff.mpr tne, fun m hm hall => ⟨rfl, _, rfl, ?_⟩⟩
      refine ite2 (fun z => ?_) (fun z => ⟨_, rfl, kk q ss _ s4 hq0 ne (by omega) fit⟩)
      have m1 : m = 1 := by
        have := of_decide_eq_true z
        injection this
      subst m1
      have ones : ∀ t ∈ tk, t = 1 := fun t ht => by
        have h1 := hall (t : Int) (List.mem_map.mpr ⟨t, ht, rfl⟩)
        have h2 := (tok t ht).1
        omega
      refine ⟨(by show 6 ≤ sizeLine; decide), fun r1 hr1 => ?_⟩
      have s5 := Same.new (o := .lst [V.str "gain", V.str "clip", V.str "share", V.str "taps", V.str "tally", V.str "tape"]) s4 hr1
      have gr1 : upd H4 r1 (.lst [V.str "gain", V.str "clip", V.str "share", V.str "taps", V.str "tally", V.str "tape"]) r1 = some (.lst [V.str "gain", V.str "clip", V.str "share", V.str "taps", V.str "tally", V.str "tape"]) := upd_same
      have k5 := Same.new (o := .lst [V.str "gain", V.str "clip", V.str "share", V.str "taps", V.str "tally", V.str "tape"]) (Same.refl H4) hr1
      generalize upd H4 r1 (.lst [V.str "gain", V.str "clip", V.str "share", V.str "taps", V.str "tally", V.str "tape"]) = H5 at s5 gr1 k5
      refine ⟨(by show 2 ≤ sizeLine; decide), fun r2 hr2 => ?_⟩
      have s6 := Same.new (o := .lst [V.str "times", V.str "latch"]) s5 hr2
      have gr2 : upd H5 r2 (.lst [V.str "times", V.str "latch"]) r2 = some (.lst [V.str "times", V.str "latch"]) := upd_same
      have k6 := Same.new (o := .lst [V.str "times", V.str "latch"]) (Same.refl H5) hr2
      generalize upd H5 r2 (.lst [V.str "times", V.str "latch"]) = H6 at s6 gr2 k6
      refine ⟨(by show 1 ≤ sizeLine; decide), fun r3 hr3 => ?_⟩
      have s7 := Same.new (o := .lst [V.str "choose"]) s6 hr3
      have gr3 : upd H6 r3 (.lst [V.str "choose"]) r3 = some (.lst [V.str "choose"]) := upd_same
      have k7 := Same.new (o := .lst [V.str "choose"]) (Same.refl H6) hr3
      generalize upd H6 r3 (.lst [V.str "choose"]) = H7 at s7 gr3 k7
      refine ⟨(by show 0 ≤ sizeLine; decide), fun r4 hr4 => ?_⟩
      have s8 := Same.new (o := .lst []) s7 hr4
      have gr4 : upd H7 r4 (.lst []) r4 = some (.lst []) := upd_same
      have k8 := Same.new (o := .lst []) (Same.refl H7) hr4
      generalize upd H7 r4 (.lst []) = H8 at s8 gr4 k8
      refine ⟨(by show 4 ≤ sizeLine; decide), fun r5 hr5 => ?_⟩
      have s9 := Same.new (o := .lst [V.ref r1, V.ref r2, V.ref r3, V.ref r4]) s8 hr5
      have gr5 : upd H8 r5 (.lst [V.ref r1, V.ref r2, V.ref r3, V.ref r4]) r5 = some (.lst [V.ref r1, V.ref r2, V.ref r3, V.ref r4]) := upd_same
      have k9 := Same.new (o := .lst [V.ref r1, V.ref r2, V.ref r3, V.ref r4]) (Same.refl H8) hr5
      generalize upd H8 r5 (.lst [V.ref r1, V.ref r2, V.ref r3, V.ref r4]) = H9 at s9 gr5 k9
      obtain ⟨r, sx, er, gr, sxl, sxf⟩ : ∃ (r : Addr) (sx : List Srt), atI [V.ref r1, V.ref r2, V.ref r3, V.ref r4] (((tk.map natV).length : Int) - 1) = some (.ref r) ∧ H9 r = some (.lst (txV sx)) ∧ sx.length ≤ 6 ∧ ∀ s ∈ sx, Fit tk gv s := by
        have t4 : tk = [1] ∨ tk = [1, 1] ∨ tk = [1, 1, 1] ∨ tk = [1, 1, 1, 1] := ones_four tne tl ones
        rcases t4 with h | h | h | h
        · refine ⟨r1, [.gain, .clip, .share, .taps, .count, .tape], by rw [h]; rfl, k9 _ _ (k8 _ _ (k7 _ _ (k6 _ _ gr1))), by decide, fun s hs => ?_⟩
          simp only [List.mem_cons, List.not_mem_nil, or_false] at hs
          rcases hs with rfl | rfl | rfl | rfl | rfl | rfl <;> exact ⟨h, gv1⟩
        · refine ⟨r2, [.times, .latch], by rw [h]; rfl, k9 _ _ (k8 _ _ (k7 _ _ gr2)), by decide, fun s hs => ?_⟩
          simp only [List.mem_cons, List.not_mem_nil, or_false] at hs
          rcases hs with rfl | rfl <;> exact ⟨h, gv1⟩
        · refine ⟨r3, [.choose], by rw [h]; rfl, k9 _ _ (k8 _ _ gr3), by decide, fun s hs => ?_⟩
          rw [List.mem_singleton.mp hs]
          exact ⟨h, gv1⟩
        · exact ⟨r4, [], by rw [h]; rfl, k9 _ _ gr4, by decide, fun s hs => by cases hs⟩
      have hq5 := k9 _ _ (k8 _ _ (k7 _ _ (k6 _ _ (k5 _ _ hq0))))
      have lx : (txV sx).length ≤ 6 := by
        unfold txV
        rw [List.length_map]
        exact sxl
      have ls : (txV ss).length ≤ 4 := by
        unfold txV
        rw [List.length_map]
        exact len
      refine ⟨_, rfl, _, rfl, _, rfl, l, _, rfl, .inl (SqL.of (s9 _ _ hl)), _, _, rfl, rfl, r5, _, _, _, rfl, rfl, SqL.of gr5, er, q, r, _, _, rfl, rfl, hq5, gr, Nat.le_trans (show (txV ss).length + (txV sx).length ≤ 10 by omega) (by decide), fun r6 hr6 => ?_⟩
      have s10 := Same.new (o := .lst (txV ss ++ txV sx)) s9 hr6
      have gr6 : upd H9 r6 (.lst (txV ss ++ txV sx)) r6 = some (.lst (txV ss ++ txV sx)) := upd_same
      have k10 := Same.new (o := .lst (txV ss ++ txV sx)) (Same.refl H9) hr6
      generalize upd H9 r6 (.lst (txV ss ++ txV sx)) = H10 at s10 gr6 k10
      refine ⟨(by show 1 ≤ sizeLine; decide), fun r7 hr7 => ?_⟩
      have s11 := Same.new (o := .lst [V.str "mix"]) s10 hr7
      have gr7 : upd H10 r7 (.lst [V.str "mix"]) r7 = some (.lst [V.str "mix"]) := upd_same
      have k11 := Same.new (o := .lst [V.str "mix"]) (Same.refl H10) hr7
      generalize upd H10 r7 (.lst [V.str "mix"]) = H11 at s11 gr7 k11
      refine ⟨r6, r7, _, _, rfl, rfl, k11 _ _ gr6, gr7, Nat.le_trans (show (txV ss ++ txV sx).length + 1 ≤ 11 by rw [List.length_append]; omega) (by decide), fun r8 hr8 => ?_⟩
      refine ⟨_, rfl, kk r8 (ss ++ sx ++ [.mix]) _ (Same.new s11 hr8) ?_ (by simp) ?_ fun s hs => ?_⟩
      · rw [← txV_app, ← txV_app]
        exact upd_same
      · rw [List.length_append, List.length_append]
        show _ + 1 ≤ 15
        omega
      · rcases List.mem_append.mp hs with hs | hs
        · rcases List.mem_append.mp hs with hs | hs
          · exact fit s hs
          · exact sxf s hs
        · rw [List.mem_singleton.mp hs]
          exact ⟨tne, gv1, ones⟩
end
end Sw
namespace Sw
open PySem PySem.Spec PyProof.Rows L2
/-! ### nodes of built counts that keep something -/
theorem txt_inj (s t : Srt) (h : txt s = txt t) : s = t := by
  cases s <;> cases t <;> first | rfl | exact absurd h (by decide +kernel)
theorem txt_of {s t : Srt} (h : decide (V.str (txt s) = V.str (txt t)) = true) : s = t := by
  have := of_decide_eq_true h
  injection this with this
  exact txt_inj s t this
theorem txt_no {s t : Srt} (h : ¬ decide (V.str (txt s) = V.str (txt t)) = true) : s ≠ t := fun e => h (by rw [e]; exact decide_eq_true rfl)
def tkK : Srt → List Nat
  | .times => [1, 1]
  | .latch => [1, 1]
  | .choose => [1, 1, 1]
  | _ => [1]
theorem off2 {H : Hp} {t x dx : Addr} {o u v : HO} (nx : H x = none) (ndx : H dx = none) (g : H t = some o) : L2.upd (L2.upd H dx u) x v t = some o := by
  rw [upd_ne (ne_of_none g nx), upd_ne (ne_of_none g ndx)]
  exact g
def spKept (K : PySem.W.Frag) (cl : Srt → Addr) (dd : Addr) : Sp := fun vs H Q _ => ∃ (p : Addr) (s : Srt) (lt bg : Nat), vs = [.ref p, .str (txt s), natV lt, natV bg] ∧ PotAt H p ∧ (s = .clip ∨ s = .share ∨ s = .taps ∨ s = .count ∨ s = .tape ∨ s = .latch ∨ s = .times ∨ s = .choose) ∧ lt ≤ 99 ∧ bg ≤ 9999 ∧
  ∀ (n : Addr) (k : Nk) (H' : Hp), H n = none → Kept p H H' → PotAt H' p → NodeN K cl dd k lt bg n H' → NkOk k → LbOk k lt bg → tksN k = tkK s → gvsN k = 1 → Q (.ref n) H'
section
variable {P : Program} {w : World} {K : PySem.W.Frag} {mg : Str → Option Value} {base : Heap} {f f1 f2 f3 f4 f5 f6 f7 f8 f9 C CN CO CI CW dd : Addr} {cl : Srt → Addr} {fd fd1 fd2 fd3 fd4 fd5 fd6 fd7 fd8 fd9 : FuncData}
abbrev nLKept : List Str := ["_law_pot_here", "_law_sort", "_law_after", "_law_mute"]
theorem scLKept : FnScope nLKept ["_law_pot_here", "_law_sort", "_law_after", "_law_mute"] (defScope sLKept) := ⟨rfl, rfl, rfl, by decide +kernel, rfl, by decide +kernel, by decide +kernel⟩
theorem ok_kept {i1 i2 i3 i4 i5 i6 i7 i8 : Addr} {e1 e2 e3 e4 e5 e6 e7 e8 : FuncData} {b1 b2 b3 b4 b5 b6 b7 b8 : List Value → List Value → List Value} (F : FnP K "_law_kept" sLKept f fd) (GD : FnOk P w K mg base CX0 1 f1 fd1 ["_law_pot_here", "_law_many"] spDigit) (gD : mg "_law_digit" = some (.ref f1)) (kD : PySem.W.keepIn K (.ref f1) = true) (bD : Binds K fd1 ["_law_pot_here", "_law_many"] [])
    (M1 : Mk K (cl .clip) i1) (G1 : FnOk P w K mg base CX0 4 i1 e1 ["self", "low", "high", "late", "begin"] (spMk K .clip (cl .clip) dd)) (g1 : mg "Clip" = some (.ref (cl .clip))) (kb1 : KBn K e1 ["self", "low", "high", "late", "begin"] 3 ["late", "begin"] b1 (fun vs zs => vs ++ zs))
    (M2 : Mk K (cl .share) i2) (G2 : FnOk P w K mg base CX0 4 i2 e2 ["self", "by", "late", "begin"] (spMk K .share (cl .share) dd)) (g2 : mg "Share" = some (.ref (cl .share))) (kb2 : KBn K e2 ["self", "by", "late", "begin"] 2 ["late", "begin"] b2 (fun vs zs => vs ++ zs))
    (M3 : Mk K (cl .taps) i3) (G3 : FnOk P w K mg base CX0 4 i3 e3 ["self", "numbers", "late", "begin"] (spMk K .taps (cl .taps) dd)) (g3 : mg "Taps" = some (.ref (cl .taps))) (kb3 : KBn K e3 ["self", "numbers", "late", "begin"] 2 ["late", "begin"] b3 (fun vs zs => vs ++ zs))
    (M4 : Mk K (cl .count) i4) (G4 : FnOk P w K mg base CX0 4 i4 e4 ["self", "first", "step", "size", "late", "begin"] (spMk K .count (cl .count) dd)) (g4 : mg "Count" = some (.ref (cl .count))) (kb4 : KBn K e4 ["self", "first", "step", "size", "late", "begin"] 1 ["late", "begin"] b4 (fun vs zs => vs ++ [.int 0, .int 1, .int 0] ++ zs))
    (M5 : Mk K (cl .tape) i5) (G5 : FnOk P w K mg base CX0 4 i5 e5 ["self", "numbers", "again", "late", "begin"] (spMk K .tape (cl .tape) dd)) (g5 : mg "Tape" = some (.ref (cl .tape))) (kb5 : KBn K e5 ["self", "numbers", "again", "late", "begin"] 3 ["late", "begin"] b5 (fun vs zs => vs ++ zs))
    (M6 : Mk K (cl .latch) i6) (G6 : FnOk P w K mg base CX0 4 i6 e6 ["self", "late", "begin"] (spMk K .latch (cl .latch) dd)) (g6 : mg "Latch" = some (.ref (cl .latch))) (kb6 : KBn K e6 ["self", "late", "begin"] 1 ["late", "begin"] b6 (fun vs zs => vs ++ zs))
    (M7 : Mk K (cl .times) i7) (G7 : FnOk P w K mg base CX0 4 i7 e7 ["self", "late", "begin"] (spMk K .times (cl .times) dd)) (g7 : mg "Times" = some (.ref (cl .times))) (kb7 : KBn K e7 ["self", "late", "begin"] 1 ["late", "begin"] b7 (fun vs zs => vs ++ zs))
    (M8 : Mk K (cl .choose) i8) (G8 : FnOk P w K mg base CX0 4 i8 e8 ["self", "late", "begin"] (spMk K .choose (cl .choose) dd)) (g8 : mg "Choose" = some (.ref (cl .choose))) (kb8 : KBn K e8 ["self", "late", "begin"] 1 ["late", "begin"] b8 (fun vs zs => vs ++ zs)) : FnOk P w K mg base CX0 6 f fd ["_law_pot_here", "_law_sort", "_law_after", "_law_mute"] (spKept K cl dd) := by
  refine F.ok scLKept (fun vs H Q E h => ?_) (fun cdv A ou s H vs Q E hr h => ?_)
  · obtain ⟨p, s, lt, bg, rfl, _⟩ := h
    rfl
  · obtain ⟨p, so, lt, bg, rfl, hp, hso, l99, b9, kk⟩ := h
    have nd := scLKept.nd
    have hr1 : Room 1 _ := hr.mono (by decide)
    refine ⟨_, PSs.nox (pss_cons (ps_if (pt_cmpR op_eq (pv 1) pe_str (nomark _)) (pss_one (ps_ret (pe_makeK M1 G1 hr rfl g1 kb1 pass0 (pa_cons (pe_un un_neg (pe_call GD hr1 rfl gD kD bD .nil pass0 (pa_cons (pv 0) (pa_cons pe_int pa_nil)))) (pa_cons (pe_call GD hr1 rfl gD kD bD .nil pass0 (pa_cons (pv 0) (pa_cons pe_int pa_nil))) pa_nil)) (pk_cons (pv 2) (pk_cons (pv 3) pk_nil))))) pss_nil)
      (pss_cons (ps_if (pt_cmpR op_eq (pv 1) pe_str (nomark _)) (pss_one (ps_ret (pe_makeK M2 G2 hr rfl g2 kb2 pass0 (pa_cons (pe_op op_add pe_int (pe_call GD hr1 rfl gD kD bD .nil pass0 (pa_cons (pv 0) (pa_cons pe_int pa_nil)))) pa_nil) (pk_cons (pv 2) (pk_cons (pv 3) pk_nil))))) pss_nil)
      (pss_cons (ps_if (pt_cmpR op_eq (pv 1) pe_str (nomark _)) (pss_one (ps_ret (pe_makeK M3 G3 hr rfl g3 kb3 pass0 (pa_cons (pe_lst (pa_cons pe_int (pa_cons (pe_op op_sub (pe_call GD hr1 rfl gD kD bD .nil pass0 (pa_cons (pv 0) (pa_cons pe_int pa_nil))) pe_int) pa_nil))) pa_nil) (pk_cons (pv 2) (pk_cons (pv 3) pk_nil))))) pss_nil)
      (pss_cons (ps_if (pt_cmpR op_eq (pv 1) pe_str (nomark _)) (pss_one (ps_ret (pe_makeK0 M4 G4 hr rfl g4 kb4 pass0 (pk_cons (pv 2) (pk_cons (pv 3) pk_nil))))) pss_nil)
      (pss_cons (ps_if (pt_cmpR op_eq (pv 1) pe_str (nomark _)) (pss_one (ps_ret (pe_makeK M5 G5 hr rfl g5 kb5 pass0 (pa_cons (pe_lst (pa_cons pe_int (pa_cons pe_int (pa_cons pe_int pa_nil)))) (pa_cons (pe_cmpR op_eq (pe_call GD hr1 rfl gD kD bD .nil pass0 (pa_cons (pv 0) (pa_cons pe_int pa_nil))) pe_int (nomark _)) pa_nil)) (pk_cons (pv 2) (pk_cons (pv 3) pk_nil))))) pss_nil)
      (pss_cons (ps_if (pt_cmpR op_eq (pv 1) pe_str (nomark _)) (pss_one (ps_ret (pe_makeK0 M6 G6 hr rfl g6 kb6 pass0 (pk_cons (pv 2) (pk_cons (pv 3) pk_nil))))) pss_nil)
      (pss_cons (ps_if (pt_cmpR op_eq (pv 1) pe_str (nomark _)) (pss_one (ps_ret (pe_makeK0 M7 G7 hr rfl g7 kb7 pass0 (pk_cons (pv 2) (pk_cons (pv 3) pk_nil))))) pss_nil)
      (pss_one (ps_ret (pe_makeK0 M8 G8 hr rfl g8 kb8 pass0 (pk_cons (pv 2) (pk_cons (pv 3) pk_nil)))))))))))), ?_⟩
    have fin : ∀ {G : Hp} {x dx tm x' : Addr} {B : Hp} {fs : List (Str × V)} {k : Nk}, Kept p H G → PotAt G p → G x = none → G dx = none → dx ≠ x → Kept x (upd (upd G dx (.own x)) x (.ins (cl (srt k)) dx [])) B → B x = some (.ins (cl (srt k)) dx fs) → NdF fs (ownN dd x' k) tm (lt : Int) (bg : Int) → auxO K B x' k → NkOk k → LbOk k lt bg → tksN k = tkK so → gvsN k = 1 → Q (.ref x) B := by
      intro G x dx tm x' B fs k kG hpG nx ndx ne kx hx nf au h1 h2 h3 h4
      have sm := made_same nx ndx ne kx
      exact kk x k B (kG.free hpG nx) (kG.trans (Kept.same sm)) (hpG.keep sm) ⟨dx, fs, tm, x', hx, nf, au⟩ h1 h2 h3 h4
    have lb : ∀ {k : Nk}, isEnd k = false → LbOk k lt bg := fun h => ⟨l99, b9, fun z => by rw [h] at z; cases z⟩
    refine ⟨_, rfl, rfl, _, rfl, ?_⟩
    refine ite2 (fun z => ?_) (fun z1 => ?_)
    · have z := txt_of (t := .clip) z
      subst z
      refine ⟨_, rfl, p, _, rfl, hp, by decide, by decide, fun e1 H1 d0 d1 k1 hp1 => ⟨_, rfl, ?_⟩⟩
      obtain ⟨n1, rfl, n1l⟩ := nat_of d0 d1
      refine ⟨_, rfl, p, _, rfl, hp1, by decide, by decide, fun e2 H2 d0 d1 k2 hp2 => ?_⟩
      obtain ⟨n2, rfl, n2l⟩ := nat_of d0 d1
      exact ⟨_, rfl, _, rfl, rfl, rfl, fun x dx nx ndx ne => ⟨x, dx, x, .clip (-(n1 : Int)) (n2 : Int), lt, bg, rfl, rfl, (show -(n1 : Int) ≤ (n2 : Int) by omega), lb rfl, trivial, upd_same, fun fs tm x' B k hx nf au => ⟨rfl, fin (k := .clip (-(n1 : Int)) (n2 : Int)) (k1.trans k2) hp2 nx ndx ne k hx nf au (show -(n1 : Int) ≤ (n2 : Int) by omega) (lb rfl) rfl rfl⟩⟩⟩
    refine ⟨_, rfl, rfl, _, rfl, ?_⟩
    refine ite2 (fun z => ?_) (fun z2 => ?_)
    · have z := txt_of (t := .share) z
      subst z
      refine ⟨_, rfl, p, _, rfl, hp, by decide, by decide, fun e1 H1 d0 d1 k1 hp1 => ⟨_, _, rfl, rfl, ?_⟩⟩
      obtain ⟨n1, rfl, n1l⟩ := nat_of d0 d1
      have en : V.int (1 + (n1 : Int)) = natV (n1 + 1) := by
        unfold natV
        congr 1
        omega
      exact ⟨_, rfl, _, rfl, rfl, rfl, fun x dx nx ndx ne => ⟨x, dx, x, .share (n1 + 1), lt, bg, by show [V.ref x, V.int (1 + (n1 : Int)), natV lt, natV bg] = _; rw [en]; rfl, rfl, (show 1 ≤ n1 + 1 by omega), lb rfl, trivial, upd_same, fun fs tm x' B k hx nf au => ⟨rfl, fin (k := .share (n1 + 1)) k1 hp1 nx ndx ne k hx nf au (show 1 ≤ n1 + 1 by omega) (lb rfl) rfl rfl⟩⟩⟩
    refine ⟨_, rfl, rfl, _, rfl, ?_⟩
    refine ite2 (fun z => ?_) (fun z3 => ?_)
    · have z := txt_of (t := .taps) z
      subst z
      refine ⟨_, rfl, p, _, rfl, hp, by decide, by decide, fun e1 H1 d0 d1 k1 hp1 => ⟨_, _, rfl, rfl, (by show 2 ≤ sizeLine; decide), fun t ht => ?_⟩⟩
      obtain ⟨n1, rfl, n1l⟩ := nat_of d0 d1
      have s2 := Same.new (o := .lst [V.int 1, V.int ((n1 : Int) - 4)]) (Same.refl H1) ht
      have g2 : upd H1 t (.lst [V.int 1, V.int ((n1 : Int) - 4)]) t = some (.lst [V.int 1, V.int ((n1 : Int) - 4)]) := upd_same
      generalize upd H1 t (.lst [V.int 1, V.int ((n1 : Int) - 4)]) = H2 at s2 g2
      exact ⟨_, rfl, _, rfl, rfl, rfl, fun x dx nx ndx ne => ⟨x, dx, t, .taps [1, (n1 : Int) - 4], lt, bg, rfl, rfl, (show 1 ≤ 2 ∧ 2 ≤ 12 by decide), lb rfl, off2 nx ndx g2, upd_same, fun fs tm x' B k hx nf au => ⟨rfl, fin (k := .taps [1, (n1 : Int) - 4]) (k1.trans (Kept.same s2)) (hp1.keep s2) nx ndx ne k hx nf au (show 1 ≤ 2 ∧ 2 ≤ 12 by decide) (lb rfl) rfl rfl⟩⟩⟩
    refine ⟨_, rfl, rfl, _, rfl, ?_⟩
    refine ite2 (fun z => ?_) (fun z4 => ?_)
    · have z := txt_of (t := .count) z
      subst z
      exact ⟨_, rfl, _, rfl, rfl, rfl, fun x dx nx ndx ne => ⟨x, dx, x, .count 0 1 0, lt, bg, rfl, rfl, (show (0 : Int) ≤ 0 by decide), lb rfl, trivial, upd_same, fun fs tm x' B k hx nf au => ⟨rfl, fin (k := .count 0 1 0) (Kept.same (Same.refl H)) hp nx ndx ne k hx nf au (show (0 : Int) ≤ 0 by decide) (lb rfl) rfl rfl⟩⟩⟩
    refine ⟨_, rfl, rfl, _, rfl, ?_⟩
    refine ite2 (fun z => ?_) (fun z5 => ?_)
    · have z := txt_of (t := .tape) z
      subst z
      refine ⟨(by show 3 ≤ sizeLine; decide), fun t ht => ?_⟩
      have s2 := Same.new (o := .lst [V.int 1, V.int 2, V.int 3]) (Same.refl H) ht
      have g2 : upd H t (.lst [V.int 1, V.int 2, V.int 3]) t = some (.lst [V.int 1, V.int 2, V.int 3]) := upd_same
      have ntp := hp.ne ht
      have hp0 := hp.keep s2
      generalize upd H t (.lst [V.int 1, V.int 2, V.int 3]) = H0 at s2 g2 hp0
      refine ⟨_, rfl, p, _, rfl, hp0, by decide, by decide, fun e1 H1 d0 d1 k1 hp1 => ⟨rfl, ?_⟩⟩
      obtain ⟨n1, rfl, n1l⟩ := nat_of d0 d1
      exact ⟨_, rfl, _, rfl, rfl, rfl, fun x dx nx ndx ne => ⟨x, dx, t, .tape [1, 2, 3] (decide (V.int (n1 : Int) = V.int 0)), lt, bg, rfl, rfl, (show 1 ≤ 3 ∧ 3 ≤ 60 by decide), lb rfl, off2 nx ndx (k1 _ _ ntp g2), upd_same, fun fs tm x' B k hx nf au => ⟨rfl, fin (k := .tape [1, 2, 3] (decide (V.int (n1 : Int) = V.int 0))) ((Kept.same s2).trans k1) hp1 nx ndx ne k hx nf au (show 1 ≤ 3 ∧ 3 ≤ 60 by decide) (lb rfl) rfl rfl⟩⟩⟩
    refine ⟨_, rfl, rfl, _, rfl, ?_⟩
    refine ite2 (fun z => ?_) (fun z6 => ?_)
    · have z := txt_of (t := .latch) z
      subst z
      exact ⟨_, rfl, _, rfl, rfl, rfl, fun x dx nx ndx ne => ⟨x, dx, x, .latch, lt, bg, rfl, rfl, trivial, lb rfl, trivial, upd_same, fun fs tm x' B k hx nf au => ⟨rfl, fin (k := .latch) (Kept.same (Same.refl H)) hp nx ndx ne k hx nf au trivial (lb rfl) rfl rfl⟩⟩⟩
    refine ⟨_, rfl, rfl, _, rfl, ?_⟩
    refine ite2 (fun z => ?_) (fun z7 => ?_)
    · have z := txt_of (t := .times) z
      subst z
      exact ⟨_, rfl, _, rfl, rfl, rfl, fun x dx nx ndx ne => ⟨x, dx, x, .times, lt, bg, rfl, rfl, trivial, lb rfl, trivial, upd_same, fun fs tm x' B k hx nf au => ⟨rfl, fin (k := .times) (Kept.same (Same.refl H)) hp nx ndx ne k hx nf au trivial (lb rfl) rfl rfl⟩⟩⟩
    have hc : so = .choose := by
      rcases hso with h | h | h | h | h | h | h | h
      · exact absurd h (txt_no (t := .clip) z1)
      · exact absurd h (txt_no (t := .share) z2)
      · exact absurd h (txt_no (t := .taps) z3)
      · exact absurd h (txt_no (t := .count) z4)
      · exact absurd h (txt_no (t := .tape) z5)
      · exact absurd h (txt_no (t := .latch) z6)
      · exact absurd h (txt_no (t := .times) z7)
      · exact h
    subst hc
    exact ⟨_, rfl, _, rfl, rfl, rfl, fun x dx nx ndx ne => ⟨x, dx, x, .choose, lt, bg, rfl, rfl, trivial, lb rfl, trivial, upd_same, fun fs tm x' B k hx nf au => ⟨rfl, fin (k := .choose) (Kept.same (Same.refl H)) hp nx ndx ne k hx nf au trivial (lb rfl) rfl rfl⟩⟩⟩
end
end Sw
namespace Sw
open PySem PySem.Spec PyProof.Rows L2
/-! ### a node of a shape -/
theorem sh_late {s : Shp} {a : Ad} {m b : Nat} (h : s.lb = some (m, b)) : valV (shKV s a) (kS "late") = some (natV m) ∧ valV (shKV s a) (kS "begin") = some (natV b) := by
  obtain ⟨c1, c2, c3, c4, c5, lb⟩ := s
  simp only at h
  subst h
  constructor <;> simp [valV, shKV, lbKV, ne_count_gives, ne_count_takes, ne_count_feeds, ne_count_more, ne_count_late, ne_count_begin, ne_gives_count, ne_gives_takes, ne_gives_feeds, ne_gives_more, ne_gives_late, ne_gives_begin, ne_takes_count, ne_takes_gives, ne_takes_feeds, ne_takes_more, ne_takes_late, ne_takes_begin, ne_feeds_count, ne_feeds_gives, ne_feeds_takes, ne_feeds_more, ne_feeds_late, ne_feeds_begin, ne_more_count, ne_more_gives, ne_more_takes, ne_more_feeds, ne_more_late, ne_more_begin, ne_late_count, ne_late_gives, ne_late_takes, ne_late_feeds, ne_late_more, ne_late_begin, ne_begin_count, ne_begin_gives, ne_begin_takes, ne_begin_feeds, ne_begin_more, ne_begin_late]
theorem dg_late {H : Hp} {a : Ad} {s : Shp} {m b : Nat} (h : ShAt H a s) (e : s.lb = some (m, b)) : DGet H a.d (.str "late") (some (natV m)) := by
  have := DGet.k (k := kS "late") h.1
  rw [(sh_late e).1] at this
  exact this
theorem dg_begin {H : Hp} {a : Ad} {s : Shp} {m b : Nat} (h : ShAt H a s) (e : s.lb = some (m, b)) : DGet H a.d (.str "begin") (some (natV b)) := by
  have := DGet.k (k := kS "begin") h.1
  rw [(sh_late e).2] at this
  exact this
/-- a shape that a node can be made of -/
def OneOk (c : Shp) : Prop := c.tk.length ≤ 4 ∧ (∀ t ∈ c.tk, Dig t) ∧ c.gv ≤ 8 ∧ (c.tk = [] → c.gv = 1) ∧ (c.gv = 0 → c.tk = [1]) ∧ ∃ lt bg, c.lb = some (lt, bg) ∧ lt ≤ 99 ∧ bg ≤ 9999 ∧ (c.tk = [] ∨ c.gv = 0 → lt = 0)
theorem txV_pot {ss : List Srt} {a b : Int} (h : txV ss = [V.int a, V.int b]) : False := by
  cases ss with
  | nil => simp [txV] at h
  | cons s r => simp [txV] at h
def spNode (K : PySem.W.Frag) (cl : Srt → Addr) (dd : Addr) : Sp := fun vs H Q _ => ∃ (p : Addr) (a : Ad) (c : Shp) (lt bg : Nat), vs = [.ref p, .ref a.d] ∧ PotAt H p ∧ ShAt H a c ∧ a.d ≠ p ∧ a.t ≠ p ∧ a.f ≠ p ∧ OneOk c ∧ c.lb = some (lt, bg) ∧
  ∀ (n : Addr) (k : Nk) (bg' : Nat) (H' : Hp), H n = none → Kept p H H' → PotAt H' p → NodeN K cl dd k lt bg' n H' → NkOk k → LbOk k lt bg' → tksN k = c.tk → gvsN k = c.gv → Q (.ref n) H'
section
variable {P : Program} {w : World} {K : PySem.W.Frag} {mg : Str → Option Value} {base : Heap} {f f1 f2 f3 f4 f5 f6 f7 f8 f9 C CN CO CI CW dd : Addr} {cl : Srt → Addr} {fd fd1 fd2 fd3 fd4 fd5 fd6 fd7 fd8 fd9 : FuncData}
abbrev nLNode : List Str := ["_law_pot_here", "_law_one", "_law_some", "_law_sort", "_law_after", "_law_mute"]
theorem scLNode : FnScope nLNode ["_law_pot_here", "_law_one"] (defScope sLNode) := ⟨rfl, rfl, rfl, by decide +kernel, rfl, by decide +kernel, by decide +kernel⟩
theorem ok_node_ {i1 i2 i3 i4 i5 i6 i7 i8 : Addr} {e1 e2 e3 e4 e5 e6 e7 e8 : FuncData} {b3 b4 b5 b6 b7 b8 : List Value → List Value → List Value} (F : FnP K "_law_node" sLNode f fd) (GD : FnOk P w K mg base CX0 1 f1 fd1 ["_law_pot_here", "_law_many"] spDigit) (gD : mg "_law_digit" = some (.ref f1)) (kD : PySem.W.keepIn K (.ref f1) = true) (bD : Binds K fd1 ["_law_pot_here", "_law_many"] [])
    (GS : FnOk P w K mg base CX0 1 f2 fd2 ["_law_takes", "_law_gives"] (spSorts K)) (gS : mg "_law_sorts" = some (.ref f2)) (kSo : PySem.W.keepIn K (.ref f2) = true) (bS : Binds K fd2 ["_law_takes", "_law_gives"] [])
    (GK : FnOk P w K mg base CX0 6 f3 fd3 ["_law_pot_here", "_law_sort", "_law_after", "_law_mute"] (spKept K cl dd)) (gK : mg "_law_kept" = some (.ref f3)) (kK : PySem.W.keepIn K (.ref f3) = true) (bK : Binds K fd3 ["_law_pot_here", "_law_sort", "_law_after", "_law_mute"] []) (gDd : mg "_law_deed" = some (.ref dd)) (gLen : mg "len" = none) (gTuple : mg "tuple" = none)
    (M1 : Mk K (cl .inlet) i1) (G1 : FnOk P w K mg base CX0 4 i1 e1 ["self"] (spMk K .inlet (cl .inlet) dd)) (g1 : mg "Inlet" = some (.ref (cl .inlet))) (b1 : Binds K e1 ["self"] [])
    (M2 : Mk K (cl .outlet) i2) (G2 : FnOk P w K mg base CX0 4 i2 e2 ["self"] (spMk K .outlet (cl .outlet) dd)) (g2 : mg "Outlet" = some (.ref (cl .outlet))) (b2 : Binds K e2 ["self"] [])
    (M3 : Mk K (cl .own) i3) (G3 : FnOk P w K mg base CX0 4 i3 e3 ["self", "deed", "takes", "gives", "first", "late", "begin"] (spMk K .own (cl .own) dd)) (g3 : mg "Own" = some (.ref (cl .own))) (kb3 : KBn K e3 ["self", "deed", "takes", "gives", "first", "late", "begin"] 4 ["late", "begin"] b3 (fun vs zs => vs ++ [.int 0] ++ zs))
    (M4 : Mk K (cl .resample) i4) (G4 : FnOk P w K mg base CX0 4 i4 e4 ["self", "up", "down", "numbers", "late", "begin"] (spMk K .resample (cl .resample) dd)) (g4 : mg "Resample" = some (.ref (cl .resample))) (kb4 : KBn K e4 ["self", "up", "down", "numbers", "late", "begin"] 4 ["late", "begin"] b4 (fun vs zs => vs ++ zs))
    (M5 : Mk K (cl .up) i5) (G5 : FnOk P w K mg base CX0 4 i5 e5 ["self", "many", "hold", "late", "begin"] (spMk K .up (cl .up) dd)) (g5 : mg "Up" = some (.ref (cl .up))) (kb5 : KBn K e5 ["self", "many", "hold", "late", "begin"] 3 ["late", "begin"] b5 (fun vs zs => vs ++ zs))
    (M6 : Mk K (cl .down) i6) (G6 : FnOk P w K mg base CX0 4 i6 e6 ["self", "many", "late", "begin"] (spMk K .down (cl .down) dd)) (g6 : mg "Down" = some (.ref (cl .down))) (kb6 : KBn K e6 ["self", "many", "late", "begin"] 2 ["late", "begin"] b6 (fun vs zs => vs ++ zs))
    (M7 : Mk K (cl .gain) i7) (G7 : FnOk P w K mg base CX0 4 i7 e7 ["self", "by", "late", "begin"] (spMk K .gain (cl .gain) dd)) (g7 : mg "Gain" = some (.ref (cl .gain))) (kb7 : KBn K e7 ["self", "by", "late", "begin"] 2 ["late", "begin"] b7 (fun vs zs => vs ++ zs))
    (M8 : Mk K (cl .mix) i8) (G8 : FnOk P w K mg base CX0 4 i8 e8 ["self", "many", "late", "begin"] (spMk K .mix (cl .mix) dd)) (g8 : mg "Mix" = some (.ref (cl .mix))) (kb8 : KBn K e8 ["self", "many", "late", "begin"] 2 ["late", "begin"] b8 (fun vs zs => vs ++ zs)) : FnOk P w K mg base CX0 7 f fd ["_law_pot_here", "_law_one"] (spNode K cl dd) := by
  refine F.ok scLNode (fun vs H Q E h => ?_) (fun cdv A ou s H vs Q E hr h => ?_)
  · obtain ⟨p, a, c, lt, bg, rfl, _⟩ := h
    rfl
  · obtain ⟨p, a, c, lt, bg, rfl, hp, hA, nd1, nd2, nd3, ok, elb, kk⟩ := h
    have nd := scLNode.nd
    have hr6 : Room 6 _ := hr
    have hr4 : Room 5 _ := hr.mono (by decide)
    have hr1 : Room 1 _ := hr.mono (by decide)
    have hu := hu_of hr
    have hu6 := hr.units
    refine ⟨_, PSs.nox (pss_cons (ps_set (i := 2) nd rfl (Or.inl rfl) (pe_call GS hr1 rfl gS kSo bS .nil pass0 (pa_cons (pe_dget hu (pv 1) pe_str (fun _ _ => rfl)) (pa_cons (pe_dget hu (pv 1) pe_str (fun _ _ => rfl)) pa_nil))))
      (pss_cons (ps_par3 (i := 3) (j := 4) (l := 5) rfl nd rfl rfl rfl (by decide) (by decide) (by decide) rfl rfl rfl (pa_cons (pe_ix ix_list (pv 2) (pe_call GD hr1 rfl gD kD bD .nil pass0 (pa_cons (pv 0) (pa_cons (pe_callB call_len_seq (by rfl) gLen PySem.boot_len (pa_cons (pv 2) pa_nil)) pa_nil))) (fun _ _ => rfl)) (pa_cons (pe_dget hu (pv 1) pe_str (fun _ _ => rfl)) (pa_cons (pe_dget hu (pv 1) pe_str (fun _ _ => rfl)) pa_nil))) rfl)
      (pss_cons (ps_if (pt_cmpR op_eq (pv 3) pe_str (nomark _)) (pss_one (ps_ret (pe_make0 M1 G1 hr4 rfl g1 b1 .nil pass0))) pss_nil)
      (pss_cons (ps_if (pt_cmpR op_eq (pv 3) pe_str (nomark _)) (pss_one (ps_ret (pe_make0 M2 G2 hr4 rfl g2 b2 .nil pass0))) pss_nil)
      (pss_cons (ps_if (pt_cmpR op_eq (pv 3) pe_str (nomark _)) (pss_one (ps_ret (pe_makeK M3 G3 hr4 rfl g3 kb3 pass0 (pa_cons (pe_glob (v := .ref dd) rfl gDd rfl) (pa_cons (pe_callTy call_tuple_of (by rfl) gTuple (by decide +kernel) (pa_cons (pe_dget hu (pv 1) pe_str (fun _ _ => rfl)) pa_nil)) (pa_cons (pe_dget hu (pv 1) pe_str (fun _ _ => rfl)) pa_nil))) (pk_cons (pv 4) (pk_cons (pv 5) pk_nil))))) pss_nil)
      (pss_cons (ps_if (pt_cmpR op_eq (pv 3) pe_str (nomark _)) (pss_one (ps_ret (pe_makeK M4 G4 hr4 rfl g4 kb4 pass0 (pa_cons (pe_dget hu (pv 1) pe_str (fun _ _ => rfl)) (pa_cons (pe_ix ix_list (pe_dget hu (pv 1) pe_str (fun _ _ => rfl)) pe_int (fun _ _ => rfl)) (pa_cons (pe_lst (pa_cons pe_int (pa_cons pe_int pa_nil))) pa_nil))) (pk_cons (pv 4) (pk_cons (pv 5) pk_nil))))) pss_nil)
      (pss_cons (ps_if (pt_cmpR op_eq (pv 3) pe_str (nomark _)) (pss_one (ps_ret (pe_makeK M5 G5 hr4 rfl g5 kb5 pass0 (pa_cons (pe_dget hu (pv 1) pe_str (fun _ _ => rfl)) (pa_cons (pe_cmpR op_eq (pe_call GD hr1 rfl gD kD bD .nil pass0 (pa_cons (pv 0) (pa_cons pe_int pa_nil))) pe_int (nomark _)) pa_nil)) (pk_cons (pv 4) (pk_cons (pv 5) pk_nil))))) pss_nil)
      (pss_cons (ps_if (pt_cmpR op_eq (pv 3) pe_str (nomark _)) (pss_one (ps_ret (pe_makeK M6 G6 hr4 rfl g6 kb6 pass0 (pa_cons (pe_ix ix_list (pe_dget hu (pv 1) pe_str (fun _ _ => rfl)) pe_int (fun _ _ => rfl)) pa_nil) (pk_cons (pv 4) (pk_cons (pv 5) pk_nil))))) pss_nil)
      (pss_cons (ps_if (pt_cmpR op_eq (pv 3) pe_str (nomark _)) (pss_one (ps_ret (pe_makeK M7 G7 hr4 rfl g7 kb7 pass0 (pa_cons (pe_op op_sub (pe_call GD hr1 rfl gD kD bD .nil pass0 (pa_cons (pv 0) (pa_cons pe_int pa_nil))) pe_int) pa_nil) (pk_cons (pv 4) (pk_cons (pv 5) pk_nil))))) pss_nil)
      (pss_cons (ps_if (pt_cmpR op_eq (pv 3) pe_str (nomark _)) (pss_one (ps_ret (pe_makeK M8 G8 hr4 rfl g8 kb8 pass0 (pa_cons (pe_callB call_len_seq (by rfl) gLen PySem.boot_len (pa_cons (pe_dget hu (pv 1) pe_str (fun _ _ => rfl)) pa_nil)) pa_nil) (pk_cons (pv 4) (pk_cons (pv 5) pk_nil))))) pss_nil)
      (pss_one (ps_ret (pe_call GK hr6 rfl gK kK bK .nil pass0 (pa_cons (pv 0) (pa_cons (pv 3) (pa_cons (pv 4) (pa_cons (pv 5) pa_nil))))))))))))))))), ?_⟩
    refine ⟨_, rfl, a.d, _, rfl, dg_takes hA, _, rfl, a.d, _, rfl, dg_gives hA, a.t, c.tk, c.gv, rfl, hA.2.1, ok.1, ok.2.1, fun l ss H1 s1 hl ne sl fit => ?_⟩
    obtain ⟨_, tok, g8, tg, gt, lt', bg', elb', l99, b9, l0⟩ := ok
    rw [elb] at elb'
    cases elb'
    have hp1 := hp.keep s1
    have spos := List.length_pos_iff.mpr ne
    have txl : (txV ss).length = ss.length := by
      unfold txV
      rw [List.length_map]
    refine ⟨_, rfl, _, rfl, _, rfl, l, _, rfl, .inl (SqL.of hl), p, _, rfl, hp1, by omega, by omega, fun e H2 d0 d1 k2 hp2 => ?_⟩
    obtain ⟨j, rfl, jl⟩ := nat_of d0 d1
    obtain ⟨so, es⟩ : ∃ so, ss[j]? = some so := ⟨_, List.getElem?_eq_getElem (by omega)⟩
    have fso := fit so (List.mem_of_getElem? es)
    have kH2 : Kept p H H2 := (Kept.same s1).trans k2
    have hl2 := k2 _ _ (fun z => by rw [z] at hl; obtain ⟨_, _, _, _, _, hx⟩ := hp1; rw [hx] at hl; exact txV_pot (HO.lst.inj (Option.some.inj hl)).symm) hl
    have hA2 : ShAt H2 a c := hA.at fun b hb o e => kH2 b o (by rcases hb with rfl | rfl | rfl; exact nd1; exact nd2; exact nd3) e
    have ej : (txV ss)[j]? = some (.str (txt so)) := by
      unfold txV
      rw [List.getElem?_map, es]
      rfl
    refine ⟨l, _, _, _, rfl, rfl, SqL.of hl2, atI_nat ej, ?_⟩
    refine ⟨_, rfl, a.d, _, rfl, dg_late hA2 elb, _, rfl, a.d, _, rfl, dg_begin hA2 elb, _, _, _, rfl, ?_⟩
    have fin : ∀ {G : Hp} {x dx tm x' : Addr} {B : Hp} {fs : List (Str × V)} {k : Nk} {bg' : Nat}, Kept p H2 G → PotAt G p → G x = none → G dx = none → dx ≠ x → Kept x (upd (upd G dx (.own x)) x (.ins (cl (srt k)) dx [])) B → B x = some (.ins (cl (srt k)) dx fs) → NdF fs (ownN dd x' k) tm (lt : Int) (bg' : Int) → auxO K B x' k → NkOk k → LbOk k lt bg' → tksN k = c.tk → gvsN k = c.gv → Q (.ref x) B := by
      intro G x dx tm x' B fs k bg' kG hpG nx ndx ne kx hx nf au h1 h2 h3 h4
      have sm := made_same nx ndx ne kx
      have kG' := kH2.trans kG
      exact kk x k bg' B (kG'.free hpG nx) (kG'.trans (Kept.same sm)) (hpG.keep sm) ⟨dx, fs, tm, x', hx, nf, au⟩ h1 h2 h3 h4
    have lb : ∀ {k : Nk}, isEnd k = false → LbOk k lt bg := fun h => ⟨l99, b9, fun z => by rw [h] at z; cases z⟩
    have k22 : Kept p H2 H2 := Kept.same (Same.refl H2)
    refine ⟨_, rfl, rfl, _, rfl, ?_⟩
    refine ite2 (fun z => ?_) (fun z1 => ?_)
    · have z := txt_of (t := .inlet) z
      subst z
      have l00 : lt = 0 := l0 (.inl fso)
      subst l00
      have tk0 : c.tk = [] := fso
      exact fun x dx nx ndx ne => ⟨x, dx, x, .inlet, 0, 0, rfl, rfl, trivial, ⟨by decide, by decide, fun _ => ⟨rfl, rfl⟩⟩, trivial, upd_same, fun fs tm x' B k hx nf au => ⟨rfl, fin (k := .inlet) (bg' := 0) k22 hp2 nx ndx ne k hx nf au trivial ⟨by decide, by decide, fun _ => ⟨rfl, rfl⟩⟩ tk0.symm (tg tk0).symm⟩⟩
    refine ⟨_, rfl, rfl, _, rfl, ?_⟩
    refine ite2 (fun z => ?_) (fun z2 => ?_)
    · have z := txt_of (t := .outlet) z
      subst z
      have gv0 : c.gv = 0 := fso.2
      have l00 : lt = 0 := l0 (.inr gv0)
      subst l00
      exact fun x dx nx ndx ne => ⟨x, dx, x, .outlet, 0, 0, rfl, rfl, trivial, ⟨by decide, by decide, fun _ => ⟨rfl, rfl⟩⟩, trivial, upd_same, fun fs tm x' B k hx nf au => ⟨rfl, fin (k := .outlet) (bg' := 0) k22 hp2 nx ndx ne k hx nf au trivial ⟨by decide, by decide, fun _ => ⟨rfl, rfl⟩⟩ (gt gv0).symm gv0.symm⟩⟩
    refine ⟨_, rfl, rfl, _, rfl, ?_⟩
    refine ite2 (fun z => ?_) (fun z3 => ?_)
    · have z := txt_of (t := .own) z
      subst z
      have tp := List.length_pos_iff.mpr fso.1
      refine ⟨_, rfl, a.d, _, rfl, dg_takes hA2, a.t, _, rfl, .inl ⟨SqL.of hA2.2.1, fun t ht => ?_⟩⟩
      have s3 := Same.new (o := .tup (c.tk.map natV)) (Same.refl H2) ht
      have g3 : upd H2 t (.tup (c.tk.map natV)) t = some (.tup (c.tk.map natV)) := upd_same
      generalize upd H2 t (.tup (c.tk.map natV)) = H3 at s3 g3
      have hA3 := hA2.keep s3
      have oko : NkOk (.own c.tk c.gv) := ⟨tp, by omega, tok, fso.2, g8⟩
      refine ⟨_, rfl, a.d, _, rfl, dg_gives hA3, ?_⟩
      exact ⟨_, rfl, _, rfl, rfl, rfl, fun x dx nx ndx ne => ⟨x, dx, t, .own c.tk c.gv, lt, bg, rfl, rfl, oko, lb rfl, SqT.of (off2 nx ndx g3), upd_same, fun fs tm x' B k hx nf au => ⟨rfl, fin (k := .own c.tk c.gv) (k22.trans (Kept.same s3)) (hp2.keep s3) nx ndx ne k hx nf au oko (lb rfl) rfl rfl⟩⟩⟩
    refine ⟨_, rfl, rfl, _, rfl, ?_⟩
    refine ite2 (fun z => ?_) (fun z4 => ?_)
    · have z := txt_of (t := .resample) z
      subst z
      obtain ⟨t, et⟩ := List.length_eq_one_iff.mp fso.1
      have okr : NkOk (.resample c.gv t) := ⟨⟨fso.2, g8⟩, tok t (by rw [et]; exact List.mem_cons_self)⟩
      have e0 : (c.tk.map natV)[0]? = some (natV t) := by rw [et]; rfl
      refine ⟨_, rfl, a.d, _, rfl, dg_gives hA2, _, rfl, a.d, _, rfl, dg_takes hA2, a.t, _, _, _, rfl, rfl, SqL.of hA2.2.1, atI_nat (j := 0) e0, (by show 2 ≤ sizeLine; decide), fun q hq => ?_⟩
      have s3 := Same.new (o := .lst [V.int 1, V.int 2]) (Same.refl H2) hq
      have g3 : upd H2 q (.lst [V.int 1, V.int 2]) q = some (.lst [V.int 1, V.int 2]) := upd_same
      generalize upd H2 q (.lst [V.int 1, V.int 2]) = H3 at s3 g3
      exact ⟨_, rfl, _, rfl, rfl, rfl, fun x dx nx ndx ne => ⟨x, dx, q, .resample c.gv t, lt, bg, rfl, rfl, okr, lb rfl, off2 nx ndx g3, upd_same, fun fs tm x' B k hx nf au => ⟨rfl, fin (k := .resample c.gv t) (k22.trans (Kept.same s3)) (hp2.keep s3) nx ndx ne k hx nf au okr (lb rfl) et.symm rfl⟩⟩⟩
    refine ⟨_, rfl, rfl, _, rfl, ?_⟩
    refine ite2 (fun z => ?_) (fun z5 => ?_)
    · have z := txt_of (t := .up) z
      subst z
      have okr : ∀ b, NkOk (.up c.gv b) := fun _ => ⟨fso.2, g8⟩
      refine ⟨_, rfl, a.d, _, rfl, dg_gives hA2, _, rfl, p, _, rfl, hp2, by decide, by decide, fun e3 H3 d0 d1 k3 hp3 => ⟨rfl, ?_⟩⟩
      exact ⟨_, rfl, _, rfl, rfl, rfl, fun x dx nx ndx ne => ⟨x, dx, x, .up c.gv (decide (V.int e3 = V.int 0)), lt, bg, rfl, rfl, (okr _), lb rfl, trivial, upd_same, fun fs tm x' B k hx nf au => ⟨rfl, fin (k := .up c.gv (decide (V.int e3 = V.int 0))) (k22.trans k3) hp3 nx ndx ne k hx nf au (okr _) (lb rfl) fso.1.symm rfl⟩⟩⟩
    refine ⟨_, rfl, rfl, _, rfl, ?_⟩
    refine ite2 (fun z => ?_) (fun z6 => ?_)
    · have z := txt_of (t := .down) z
      subst z
      obtain ⟨t, et⟩ := List.length_eq_one_iff.mp fso.1
      have okr : NkOk (.down t) := tok t (by rw [et]; exact List.mem_cons_self)
      have e0 : (c.tk.map natV)[0]? = some (natV t) := by rw [et]; rfl
      refine ⟨_, rfl, a.d, _, rfl, dg_takes hA2, a.t, _, _, _, rfl, rfl, SqL.of hA2.2.1, atI_nat (j := 0) e0, ?_⟩
      exact ⟨_, rfl, _, rfl, rfl, rfl, fun x dx nx ndx ne => ⟨x, dx, x, .down t, lt, bg, rfl, rfl, okr, lb rfl, trivial, upd_same, fun fs tm x' B k hx nf au => ⟨rfl, fin (k := .down t) k22 hp2 nx ndx ne k hx nf au okr (lb rfl) et.symm fso.2.symm⟩⟩⟩
    refine ⟨_, rfl, rfl, _, rfl, ?_⟩
    refine ite2 (fun z => ?_) (fun z7 => ?_)
    · have z := txt_of (t := .gain) z
      subst z
      refine ⟨_, rfl, p, _, rfl, hp2, by decide, by decide, fun e3 H3 d0 d1 k3 hp3 => ⟨_, _, rfl, rfl, ?_⟩⟩
      exact ⟨_, rfl, _, rfl, rfl, rfl, fun x dx nx ndx ne => ⟨x, dx, x, .gain (e3 - 4), lt, bg, rfl, rfl, trivial, lb rfl, trivial, upd_same, fun fs tm x' B k hx nf au => ⟨rfl, fin (k := .gain (e3 - 4)) (k22.trans k3) hp3 nx ndx ne k hx nf au trivial (lb rfl) fso.1.symm fso.2.symm⟩⟩⟩
    refine ⟨_, rfl, rfl, _, rfl, ?_⟩
    refine ite2 (fun z => ?_) (fun z8 => ?_)
    · have z := txt_of (t := .mix) z
      subst z
      have tp := List.length_pos_iff.mpr fso.1
      have okr : NkOk (.mix (c.tk.map natV).length) := ⟨by rw [List.length_map]; exact tp, by rw [List.length_map]; omega⟩
      have er : List.replicate (c.tk.map natV).length 1 = c.tk := by
        rw [List.length_map]
        exact (List.eq_replicate_iff.mpr ⟨rfl, fso.2.2⟩).symm
      refine ⟨_, rfl, a.d, _, rfl, dg_takes hA2, a.t, _, rfl, .inl (SqL.of hA2.2.1), ?_⟩
      exact ⟨_, rfl, _, rfl, rfl, rfl, fun x dx nx ndx ne => ⟨x, dx, x, .mix (c.tk.map natV).length, lt, bg, rfl, rfl, okr, lb rfl, trivial, upd_same, fun fs tm x' B k hx nf au => ⟨rfl, fin (k := .mix (c.tk.map natV).length) k22 hp2 nx ndx ne k hx nf au okr (lb rfl) er fso.2.1.symm⟩⟩⟩
    have hk : so = .clip ∨ so = .share ∨ so = .taps ∨ so = .count ∨ so = .tape ∨ so = .latch ∨ so = .times ∨ so = .choose := by
      cases so with
      | inlet => exact absurd rfl (txt_no (t := .inlet) z1)
      | outlet => exact absurd rfl (txt_no (t := .outlet) z2)
      | own => exact absurd rfl (txt_no (t := .own) z3)
      | resample => exact absurd rfl (txt_no (t := .resample) z4)
      | up => exact absurd rfl (txt_no (t := .up) z5)
      | down => exact absurd rfl (txt_no (t := .down) z6)
      | gain => exact absurd rfl (txt_no (t := .gain) z7)
      | mix => exact absurd rfl (txt_no (t := .mix) z8)
      | _ => simp
    have tkk : tkK so = c.tk ∧ 1 = c.gv := by
      rcases hk with rfl | rfl | rfl | rfl | rfl | rfl | rfl | rfl <;> exact ⟨fso.1.symm, fso.2.symm⟩
    exact ⟨_, rfl, _, rfl, _, rfl, _, rfl, p, so, lt, bg, rfl, hp2, hk, l99, b9, fun n k H' n1 k3 hp3 hn h1 h2 h3 h4 => kk n k bg H' (kH2.free hp2 n1) (kH2.trans k3) hp3 hn h1 h2 (h3.trans tkk.1) (h4.trans tkk.2)⟩
end
end Sw
namespace Sw
open PySem PySem.Spec PyProof.Rows L2
/-! ### the nodes -/
/-- a node that is made of a shape -/
def NdS (n : Nd) (x : Str × Shp) : Prop := n.name = x.1 ∧ tksN n.k = x.2.tk ∧ gvsN n.k = x.2.gv ∧ ∃ b, x.2.lb = some (n.lt, b)
theorem NodeN.keptP {K : PySem.W.Frag} {cl : Srt → Addr} {dd a p : Addr} {k : Nk} {lt bg : Nat} {H H1 : Hp} (h : NodeN K cl dd k lt bg a H) (kp : Kept p H H1) (hp : PotAt H p) : NodeN K cl dd k lt bg a H1 := h.kt (KT.kept kp hp) fun C dx fs e => (kp a _ (fun z => by
  obtain ⟨_, _, _, _, _, hx⟩ := hp
  rw [z, hx] at e
  cases e) e).trans e.symm
theorem NodeN.lst {K : PySem.W.Frag} {cl : Srt → Addr} {dd a l : Addr} {k : Nk} {lt bg : Nat} {H : Hp} {ys zs : List V} (h : NodeN K cl dd k lt bg a H) (hl : H l = some (.lst ys)) : NodeN K cl dd k lt bg a (L2.upd H l (.lst zs)) := h.kt (KT.lst hl) fun C dx fs e => upd_ne fun z => by
  rw [z, hl] at e
  cases e
def spNodes (K : PySem.W.Frag) (cl : Srt → Addr) (dd : Addr) : Sp := fun vs H Q _ => ∃ (p l nl : Addr) (as : List Ad) (cs : List Shp) (ns : List Str), vs = [.ref p, .ref l, .ref nl] ∧ PotAt H p ∧ Shs H l as cs ∧ p ∉ l :: flat as ∧ H nl = some (.lst (ns.map V.str)) ∧ ns.length = cs.length ∧ cs.length ≤ 15 ∧ (∀ c ∈ cs, OneOk c) ∧
  ∀ (l' : Addr) (nm : List Nm) (nds : List Nd) (xs : List (Str × Shp)) (H' : Hp), PairsAt K H' l' nm → Al (NmN K cl dd H') nm nds → Al NdS nds xs → xs.Perm (ns.zip cs) → (∀ n ∈ nds, NdOk n) → H l' = none → Kept p H H' → PotAt H' p → Q (.ref l') H'
theorem nl_ne {H : Hp} {p nl : Addr} {ns : List Str} (hp : PotAt H p) (h : H nl = some (.lst (ns.map V.str))) : nl ≠ p := fun z => by
  obtain ⟨_, _, _, _, _, hx⟩ := hp
  rw [z, hx] at h
  have e := HO.lst.inj (Option.some.inj h)
  cases ns with
  | nil => simp at e
  | cons a r => simp at e
section
variable {P : Program} {w : World} {K : PySem.W.Frag} {mg : Str → Option Value} {base : Heap} {f f1 f2 f3 f4 f5 f6 f7 f8 f9 C CN CO CI CW dd : Addr} {cl : Srt → Addr} {fd fd1 fd2 fd3 fd4 fd5 fd6 fd7 fd8 fd9 : FuncData}
abbrev nLNodes : List Str := ["_law_pot_here", "_law_shapes_here", "_law_names_here", "_law_name", "_law_one"]
theorem scLNodes : FnScope nLNodes ["_law_pot_here", "_law_shapes_here", "_law_names_here"] (defScope sLNodes) := ⟨rfl, rfl, rfl, by decide +kernel, rfl, by decide +kernel, by decide +kernel⟩
theorem ok_nodes (F : FnP K "_law_nodes" sLNodes f fd) (GM : FnOk P w K mg base CX0 2 f1 fd1 ["_law_pot_here", "_law_some"] (spMixed K)) (gM : mg "_law_mixed" = some (.ref f1)) (kM : PySem.W.keepIn K (.ref f1) = true) (bM : Binds K fd1 ["_law_pot_here", "_law_some"] [])
    (GN : FnOk P w K mg base CX0 7 f2 fd2 ["_law_pot_here", "_law_one"] (spNode K cl dd)) (gN : mg "_law_node" = some (.ref f2)) (kN : PySem.W.keepIn K (.ref f2) = true) (bN : Binds K fd2 ["_law_pot_here", "_law_one"] []) (gZip : mg "zip" = none) : FnOk P w K mg base CX0 8 f fd ["_law_pot_here", "_law_shapes_here", "_law_names_here"] (spNodes K cl dd) := by
  refine F.ok scLNodes (fun vs H Q E h => ?_) (fun cdv A ou s H vs Q E hr h => ?_)
  · obtain ⟨p, l, nl, as, cs, ns, rfl, _⟩ := h
    rfl
  · obtain ⟨p, l, nl, as, cs, ns, rfl, hp, hs, np, hn, nlen, few, oks, kk⟩ := h
    have nd := scLNodes.nd
    have hr7 : Room 7 _ := hr
    have hr2 : Room 2 _ := hr.mono (by decide)
    have hu := hu_of hr
    refine ⟨_, PSs.nox (pss_one (ps_ret (pe_call GM hr2 rfl gM kM bM .nil pass0 (pa_cons (pv 0) (pa_cons (pe_lc (own := [("_law_name", 3), ("_law_one", 4)]) (g := (gTup K 2 (gCons (gName 3) (gCons (gName 4) gNil)))) (tt := tYes) rfl nd (pi_zip (by rfl) gZip (pa_cons (pv 2) (pa_cons (pv 1) pa_nil))) (blkOk_by (N := nLNodes) (sc := defScope sLNodes) (by decide +kernel))
        (fun _ _ _ _ _ => (pg_tup rfl (pgs_cons (pg_name (i := 3) nd rfl (Or.inl rfl)) (pgs_cons (pg_name (i := 4) nd rfl (Or.inl rfl)) pgs_nil)))) (fun _ _ _ _ _ => pts_nil) (fun _ _ _ _ _ => (pe_tup (pa_cons (pv 3) (pa_cons (pe_call GN hr7 rfl gN kN bN .nil pass0 (pa_cons (pv 0) (pa_cons (pv 4) pa_nil))) pa_nil))))) pa_nil))))), ?_⟩
    have lens := hs.2.1.len
    have nnp := nl_ne hp hn
    refine ⟨_, rfl, _, rfl, _, rfl, nl, l, _, _, rfl, SqL.of hn, SqL.of hs.1, fun D hD => ?_⟩
    have hsG : ∀ {G : Hp}, Kept p H G → Shs G l as cs := fun k => hs.kept k np
    refine lc_it (walk_zip (xs := ns.map V.str) (ys := as.map fun a => V.ref a.d) (n := cs.length) (by rw [List.length_map, List.length_map, lens, nlen, Nat.min_self])) (fun j H' => (∃ (qs : List V) (nm : List Nm) (nds : List Nd), H' D = some (.lst qs) ∧ Al (PairAt K H') qs nm ∧ Al (NmN K cl dd H') nm nds ∧ Al NdS nds ((ns.zip cs).take j) ∧ (∀ n ∈ nds, NdOk n)) ∧ Kept p H H' ∧ PotAt H' p) ⟨⟨[], [], [], upd_same, trivial, trivial, by rw [List.take_zero]; exact trivial, fun _ h => by cases h⟩, (Kept.same (Same.refl H)).past hD, hp.upd (hp.ne hD)⟩ (fun j H' _ e => ⟨SqL.of (e.2.1 _ _ nnp hn), SqL.of (hsG e.2.1).1⟩) (fun j v H' H'' hj e y => ?_) (fun H1 e => ?_)
    · obtain ⟨⟨qs, nm, nds, hd, alq, aln, als, okn⟩, kH, hpH⟩ := e
      obtain ⟨TT, x1, x2, rfl, hT, rfl, ea, eb⟩ := y
      have ea : (ns.map V.str)[j]? = some x1 := ea
      have eb : (as.map fun a => V.ref a.d)[j]? = some x2 := eb
      rw [List.getElem?_map] at ea eb
      obtain ⟨nm0, en, rfl⟩ := Option.map_eq_some_iff.mp ea
      obtain ⟨a, eA, rfl⟩ := Option.map_eq_some_iff.mp eb
      have sT := Same.new (o := .tup [V.str nm0, V.ref a.d]) (Same.refl H') hT
      refine ⟨TT, _, rfl, .inl (.inl upd_same), rfl, _, _, rfl, _, _, rfl, rfl, rfl, yes_ite ?_⟩
      generalize upd H' TT (.tup [V.str nm0, V.ref a.d]) = GT at sT
      have kT := kH.trans (Kept.same sT)
      have hpT := hpH.keep sT
      obtain ⟨c, ec, hc⟩ := (hsG kT).2.1.get eA
      obtain ⟨md, mt, mf⟩ := mem_flat (List.mem_of_getElem? eA)
      have off : ∀ b, b ∈ flat as → b ≠ p := fun b hb z => np (z ▸ List.mem_cons_of_mem _ hb)
      have okc := oks c (List.mem_of_getElem? ec)
      obtain ⟨_, _, _, _, _, lt, bg, elb, _⟩ := id okc
      refine ⟨_, rfl, _, rfl, _, rfl, p, a, c, lt, bg, rfl, hpT, hc, off _ md, off _ mt, off _ mf, okc, elb, fun n k bg' H2 nn k2 hp2 hn2 n1 n2 n3 n4 => ?_⟩
      refine ⟨(by show 2 ≤ sizeLine; decide), fun t ht => ?_⟩
      have s3 := Same.new (o := .tup [V.str nm0, V.ref n]) (Same.refl H2) ht
      have g3 : SqT K (upd H2 t (.tup [V.str nm0, V.ref n])) t [V.str nm0, V.ref n] := SqT.of upd_same
      generalize upd H2 t (.tup [V.str nm0, V.ref n]) = H3 at s3 g3
      have nDp : D ≠ p := hp.ne hD
      have k'3 : Kept p H' H3 := ((Kept.same sT).trans k2).trans (Kept.same s3)
      have hd3 := k'3 _ _ nDp hd
      have kt3 : KT K H' H3 := KT.kept k'3 hpH
      have hp3 := hp2.keep s3
      refine ⟨qs, hd3, ?_, ⟨qs ++ [.ref t], nm ++ [⟨nm0, n, infN k⟩], nds ++ [⟨nm0, k, lt, bg'⟩], upd_same, ?_, ?_, ?_, ?_⟩, (kH.trans k'3).past hD, hp3.upd nDp⟩
      · have l1 := alq.len
        have l2 := aln.len
        have l3 := als.len
        rw [List.length_take, List.length_zip] at l3
        exact Nat.lt_of_lt_of_le (show qs.length < 100 by omega) (by decide)
      · exact Al.snoc ⟨t, rfl, KT.lst hd3 _ _ g3⟩ (alq.imp fun v x ⟨q, e, h⟩ => ⟨q, e, KT.lst hd3 _ _ (kt3 _ _ h)⟩)
      · exact Al.snoc ⟨rfl, rfl, (hn2.keep s3).lst hd3⟩ (aln.imp fun x m ⟨e1, e2, h⟩ => ⟨e1, e2, (h.keptP k'3 hpH).lst hd3⟩)
      · have ez : (ns.zip cs)[j]? = some (nm0, c) := by
          rw [List.getElem?_zip_eq_some]
          exact ⟨en, ec⟩
        rw [List.take_add_one, ez]
        exact Al.snoc ⟨rfl, n3, n4, bg, elb⟩ als
      · intro m hm
        rcases List.mem_append.mp hm with h | h
        · exact okn m h
        · rw [List.mem_singleton.mp h]
          exact ⟨n1, n2⟩
    obtain ⟨⟨qs, nm, nds, hd, alq, aln, als, okn⟩, kH, hpH⟩ := e
    have l1 := alq.len
    have l2 := aln.len
    have l3 := als.len
    rw [List.length_take, List.length_zip] at l3
    refine ⟨p, D, qs, rfl, hpH, hp.ne hD, hd, by omega, fun l' ys H' pm n k hp' hl' => ?_⟩
    obtain ⟨nm', pn, al1⟩ := Al.perm pm alq
    obtain ⟨nds', pd, al2⟩ := Al.perm pn aln
    obtain ⟨xs', px, al3⟩ := Al.perm pd als
    rw [List.take_of_length_le (by rw [List.length_zip]; omega)] at px
    refine kk l' nm' nds' xs' H' ⟨ys, hl', al1.imp fun v x ⟨q, e, h⟩ => ⟨q, e, KT.kept k hpH _ _ h⟩⟩ (al2.imp fun x m ⟨e1, e2, h⟩ => ⟨e1, e2, h.keptP k hpH⟩) al3 px (fun m hm => okn m (pd.mem_iff.mp hm)) (kH.free hpH n) (kH.trans k) hp'
end
end Sw
namespace Sw
open PySem PySem.Spec PyProof.Rows L2
/-! ### what is due, what is told -/
def LateD (H : Hp) (d : Addr) (nds : List Nd) (ws : List Wr) : Prop := ∃ kvs : List (Key × V), H d = some (.dK kvs) ∧ ∀ w ∈ ws, valV kvs (kS w.src) = some (natV (furth nds w.src))
def spDue (K : PySem.W.Frag) : Sp := fun vs H Q _ => ∃ (wl d : Addr) (b : Bool) (nds : List Nd) (ws : List Wr), vs = [.ref wl, .ref d, .bl b] ∧ WiresAt K H wl ws ∧ LateD H d nds ws ∧ ws.length ≤ 48 ∧ ∀ (l : Addr) (H' : Hp), Same H H' → H l = none → H' l = some (.lst (lensV nds b ws)) → Q (.ref l) H'
section
variable {P : Program} {w : World} {K : PySem.W.Frag} {mg : Str → Option Value} {base : Heap} {f f1 f2 f3 f4 f5 f6 f7 f8 f9 C CN CO CI CW dd : Addr} {cl : Srt → Addr} {fd fd1 fd2 fd3 fd4 fd5 fd6 fd7 fd8 fd9 : FuncData}
abbrev nLDue : List Str := ["_law_wires_here", "_law_late_of", "_law_run", "_law_source", "_law_goal", "_law_place", "_law_delay"]
theorem scLDue : FnScope nLDue ["_law_wires_here", "_law_late_of", "_law_run"] (defScope sLDue) := ⟨rfl, rfl, rfl, by decide +kernel, rfl, by decide +kernel, by decide +kernel⟩
theorem ok_due (F : FnP K "_law_due" sLDue f fd) (gInt : mg "int" = none) : FnOk P w K mg base CX0 1 f fd ["_law_wires_here", "_law_late_of", "_law_run"] (spDue K) := by
  refine F.ok scLDue (fun vs H Q E h => ?_) (fun cdv A ou s H vs Q E hr h => ?_)
  · obtain ⟨wl, d, b, nds, ws, rfl, _⟩ := h
    rfl
  · obtain ⟨wl, d, b, nds, ws, rfl, hw, hd, wl48, kk⟩ := h
    have nd := scLDue.nd
    have hu := hu_of hr
    refine ⟨_, PSs.nox (pss_one (ps_ret (pe_lc (own := [("_law_source", 3), ("_law_goal", 4), ("_law_place", 5), ("_law_delay", 6)]) (g := (gTup K 4 (gCons (gName 3) (gCons (gName 4) (gCons (gName 5) (gCons (gName 6) gNil)))))) (tt := tYes) rfl nd (pi_list (pv 0)) (blkOk_by (N := nLDue) (sc := defScope sLDue) (by decide +kernel))
        (fun _ _ _ _ _ => (pg_tup rfl (pgs_cons (pg_name (i := 3) nd rfl (Or.inl rfl)) (pgs_cons (pg_name (i := 4) nd rfl (Or.inl rfl)) (pgs_cons (pg_name (i := 5) nd rfl (Or.inl rfl)) (pgs_cons (pg_name (i := 6) nd rfl (Or.inl rfl)) pgs_nil)))))) (fun _ _ _ _ _ => pts_nil) (fun _ _ _ _ _ => (pe_op op_add (pv 6) (pe_op op_mul (pe_callTy call_int1 (by rfl) gInt PyProof.Rows.boot_int (pa_cons (pv 2) pa_nil)) (pe_dget hu (pv 1) (pv 3) (fun _ _ => rfl)))))))), ?_⟩
    obtain ⟨ps, hl, alw⟩ := hw
    obtain ⟨kvs, hk, hv⟩ := hd
    refine ⟨_, rfl, wl, rfl, ⟨_, SqL.of hl⟩, fun D hD => ?_⟩
    refine lc_list (xs := ps) (fun j H' => H' D = some (.lst (lensV nds b (ws.take j))) ∧ Same H H') ⟨by rw [List.take_zero]; exact upd_same, Same.past (Same.refl _) hD⟩ (fun j H' _ e => SqL.of (e.2 _ _ hl)) (fun j v H' ev e => ?_) (fun H1 e => ?_)
    · obtain ⟨hd', sm⟩ := e
      obtain ⟨wr, ew, q, rfl, hq⟩ := alw.get ev
      have wm : wr ∈ ws := List.mem_of_getElem? ew
      have hqT := Same.tup sm hq
      refine ⟨q, _, rfl, hqT, rfl, ?_⟩
      refine ⟨_, _, rfl, _, _, rfl, _, _, rfl, _, _, rfl, rfl, rfl, yes_ite ?_⟩
      have dk : DGet H' d (.str wr.src) (some (natV (furth nds wr.src))) := by
        have := DGet.k (k := kS wr.src) (sm _ _ hk)
        rw [hv wr wm] at this
        exact this
      refine ⟨_, rfl, _, rfl, .inr ⟨_, rfl, _, rfl, _, rfl, d, _, rfl, dk, _, _, rfl, rfl, .inl ⟨by split <;> decide, by split <;> decide⟩, _, _, rfl, rfl, _, hd', ?_, ?_, Same.past sm hD⟩⟩
      · unfold lensV
        rw [List.length_map, List.length_take]
        exact Nat.lt_of_lt_of_le (show min j ws.length < 100 by omega) (by decide)
      · rw [List.take_add_one, ew]
        unfold lensV
        rw [List.map_append]
        have ev : V.int ((wr.delay : Int) + (if b = true then 1 else 0) * (furth nds wr.src : Int)) = V.int ((wr.delay + (if b then furth nds wr.src else 0) : Nat) : Int) := by
          congr 1
          cases b
          · rw [if_neg (by decide), if_neg (by decide)]
            omega
          · rw [if_pos rfl, if_pos rfl]
            omega
        exact upd_same.trans (congrArg (fun z => some (HO.lst (List.map (fun w : Wr => V.int ((w.delay + (if b then furth nds w.src else 0) : Nat) : Int)) (ws.take j) ++ [z]))) ev)
    · obtain ⟨hd', sm⟩ := e
      rw [alw.len, List.take_length] at hd'
      exact kk D H1 sm hD hd'
theorem gvs8 {k : Nk} (h : NkOk k) : gvsN k ≤ 8 := by
  cases k with
  | own ts g => exact h.2.2.2.2
  | up n b => exact h.2
  | resample u d => exact h.1.2
  | _ => simp [gvsN]
def spTold (K : PySem.W.Frag) {CN CO CI : Addr} (cl : Srt → Addr) (dd : Addr) (c : ClsS K cl CN CO CI) (CW : Addr) : Sp := fun vs H Q _ => ∃ (p : Addr) (n : Nat) (nm : List Nm) (ws : List Wr) (ns : List Nd), vs = [.ref p, .int (n : Int)] ∧ n < 4 ∧ WvAt K (sorts cl dd c) CW H p nm ws ∧ WvOk nm ws ∧ Al (NmN K cl dd H) nm ns ∧ (∀ n ∈ ns, NdOk n) ∧ ∀ (l : Addr) (H' : Hp), Same H H' → H l = none → H' l = some (.lst (lensV ns (decide (n = 1 ∨ n = 3)) ws)) → Q (.ref l) H'
abbrev nLTold : List Str := ["_law_made", "_law_way"]
theorem scLTold : FnScope nLTold ["_law_made", "_law_way"] (defScope sLTold) := ⟨rfl, rfl, rfl, by decide +kernel, rfl, by decide +kernel, by decide +kernel⟩
theorem ok_told (c : ClsS K cl CN CO CI) (F : FnP K "_law_told" sLTold f fd) {dsF : List Value} {gA gB : List Value → List Value → List Value} (GFi : FnOk P w K mg base CX0 4 f1 fd1 ["weave", "lates"] (spFirst K cl dd c CW)) (gFi : mg "first_queues" = some (.ref f1)) (kFi : PySem.W.keepIn K (.ref f1) = true) (bFi : Binds K fd1 ["weave", "lates"] dsF) (vFi : Vals [.bl false] dsF)
    (kbA : KBn K fd1 ["weave", "lates"] 0 ["lates", "weave"] gA (fun vs zs => vs ++ (zs.drop 1 ++ zs.take 1))) (kbB : KBn K fd1 ["weave", "lates"] 1 ["lates"] gB (fun vs zs => vs ++ zs)) : FnOk P w K mg base CX0 5 f fd ["_law_made", "_law_way"] (spTold K cl dd c CW) := by
  refine F.ok scLTold (fun vs H Q E h => ?_) (fun cdv A ou s H vs Q E hr h => ?_)
  · obtain ⟨p, n, nm, ws, ns, rfl, _⟩ := h
    rfl
  · obtain ⟨p, n, nm, ws, ns, rfl, n4, wv, ok, al, oks, kk⟩ := h
    have nd := scLTold.nd
    have hr4 : Room 4 _ := hr
    refine ⟨_, PSs.nox (pss_cons (ps_if (pt_cmpR op_eq (pv 1) pe_int (nomark _)) (pss_one (ps_ret (pe_call GFi hr4 rfl gFi kFi bFi vFi pass0 (pa_cons (pv 0) pa_nil)))) pss_nil)
      (pss_cons (ps_if (pt_cmpR op_eq (pv 1) pe_int (nomark _)) (pss_one (ps_ret (pe_callKN GFi hr4 rfl gFi kFi kbA pass0 (pk_cons pe_bl (pk_cons (pv 0) pk_nil))))) pss_nil)
      (pss_one (ps_ret (pe_callN GFi hr4 rfl gFi kFi kbB pass0 (pa_cons (pv 0) pa_nil) (pk_cons (pe_ix ix_list (pe_lst (pa_cons pe_bl (pa_cons pe_bl pa_nil))) (pe_op op_sub (pv 1) pe_int) (fun _ _ => rfl)) pk_nil)))))), ?_⟩
    have no : ∀ {k : Nat}, ¬ decide (V.int (n : Int) = V.int (k : Int)) = true → n ≠ k := fun h e => h (by rw [e]; exact decide_eq_true rfl)
    have yes : ∀ {k : Nat}, decide (V.int (n : Int) = V.int (k : Int)) = true → n = k := fun h => by
      have := of_decide_eq_true h
      injection this
      omega
    refine ⟨_, rfl, rfl, _, rfl, ?_⟩
    refine ite2 (fun z => ?_) (fun z1 => ?_)
    · have z := yes (k := 0) z
      refine ⟨_, rfl, p, false, nm, ws, ns, rfl, wv, ok, al, oks, fun l H' s n0 hl => kk l H' s n0 ?_⟩
      rw [decide_eq_false (by omega)]
      exact hl
    refine ⟨_, rfl, rfl, _, rfl, ?_⟩
    refine ite2 (fun z => ?_) (fun z2 => ?_)
    · have z := yes (k := 1) z
      refine ⟨_, rfl, rfl, p, true, nm, ws, ns, rfl, wv, ok, al, oks, fun l H' s n0 hl => kk l H' s n0 ?_⟩
      rw [decide_eq_true (by omega)]
      exact hl
    have z1 := no (k := 0) z1
    have z2 := no (k := 1) z2
    refine ⟨_, rfl, (by show 2 ≤ sizeLine; decide), fun q hq => ?_⟩
    have s1 := Same.new (o := .lst [V.bl false, V.bl true]) (Same.refl H) hq
    have g1 : upd H q (.lst [V.bl false, V.bl true]) q = some (.lst [V.bl false, V.bl true]) := upd_same
    generalize upd H q (.lst [V.bl false, V.bl true]) = H1 at s1 g1
    have ei : atI [V.bl false, V.bl true] ((n : Int) - 2) = some (.bl (decide (n = 1 ∨ n = 3))) := by
      have : n = 2 ∨ n = 3 := by omega
      rcases this with rfl | rfl <;> rfl
    refine ⟨_, rfl, _, _, rfl, rfl, q, _, _, _, rfl, rfl, SqL.of g1, ei, rfl, rfl, p, _, nm, ws, ns, rfl, wv.keep s1, ok, al.imp fun x m h => h.keep s1, oks, fun l H' s n0 hl => kk l H' (s1.trans s) (s1.free n0) hl⟩
/-- two lists of whole numbers are shown alike -/
theorem lens_dp {K : PySem.W.Frag} {H : Hp} {ns : List Nd} {b : Bool} : ∀ ws : List Wr, DpAll K H (lensV ns b ws) (ws.map fun w => natD (w.delay + (if b then furth ns w.src else 0)))
  | [] => .nil
  | w :: r => .cons (.int _) (lens_dp r)
theorem furth_le {ns : List Nd} (h : ∀ n ∈ ns, NdOk n) (s : Str) : furth ns s ≤ 800 := by
  unfold furth
  split
  · rename_i n e
    obtain ⟨k, l1, l2, l3⟩ := h n (List.mem_of_find?_eq_some e)
    have g : gvsN n.k ≤ 8 := gvs8 k
    exact Nat.le_trans (Nat.mul_le_mul l1 g) (by decide)
  · omega
end
end Sw
namespace Sw
open PySem PySem.Spec PyProof.Rows L2
/-! ### the first queues are right -/
theorem nats_show : ∀ {ts : List Nat}, (∀ t ∈ ts, t ≤ 99999) → PyData.showableAll (ts.map natD) = true
  | [], _ => by rw [List.map_nil, PyData.showableAll]
  | t :: r, h => by
    have lg : decide ((t : Int).natAbs.log2 < 1920) = true := decide_eq_true (by
      have hn := h t List.mem_cons_self
      rw [Int.natAbs_natCast]
      refine Nat.lt_of_le_of_lt (show t.log2 ≤ 17 from ?_) (by decide)
      by_cases z : t = 0
      · rw [z]
        decide
      · exact Nat.le_of_lt_succ ((Nat.log2_lt z).mpr (by omega)))
    rw [List.map_cons, PyData.showableAll, nats_show fun z hz => h z (List.mem_cons_of_mem _ hz)]
    unfold natD
    simp only [PyData.showable]
    rw [lg]
    rfl
def spRight (K : PySem.W.Frag) {CN CO CI : Addr} (cl : Srt → Addr) (dd : Addr) (c : ClsS K cl CN CO CI) (CW : Addr) : Sp := fun vs H Q _ => ∃ (p wl d : Addr) (nm : List Nm) (ws : List Wr) (ns : List Nd), vs = [.ref p, .ref wl, .ref d] ∧ WvAt K (sorts cl dd c) CW H p nm ws ∧ WvOk nm ws ∧ Al (NmN K cl dd H) nm ns ∧ (∀ n ∈ ns, NdOk n) ∧ WiresAt K H wl ws ∧ LateD H d ns ws ∧ ∀ H', Same H H' → Q (.bl true) H'
section
variable {P : Program} {w : World} {K : PySem.W.Frag} {mg : Str → Option Value} {base : Heap} {f f1 f2 f3 f4 f5 f6 f7 f8 f9 C CN CO CI CW dd : Addr} {cl : Srt → Addr} {fd fd1 fd2 fd3 fd4 fd5 fd6 fd7 fd8 fd9 : FuncData}
abbrev nLRight : List Str := ["_law_made", "_law_wires_here", "_law_late_of", "_law_way", "_law_told_here"]
theorem scLRight : FnScope nLRight ["_law_made", "_law_wires_here", "_law_late_of"] (defScope sLRight) := ⟨rfl, rfl, rfl, by decide +kernel, rfl, by decide +kernel, by decide +kernel⟩
theorem ok_right (c : ClsS K cl CN CO CI) (F : FnP K "_law_right" sLRight f fd) (GTo : FnOk P w K mg base CX0 5 f1 fd1 ["_law_made", "_law_way"] (spTold K cl dd c CW)) (gTo : mg "_law_told" = some (.ref f1)) (kTo : PySem.W.keepIn K (.ref f1) = true) (bTo : Binds K fd1 ["_law_made", "_law_way"] [])
    (GDu : FnOk P w K mg base CX0 1 f2 fd2 ["_law_wires_here", "_law_late_of", "_law_run"] (spDue K)) (gDu : mg "_law_due" = some (.ref f2)) (kDu : PySem.W.keepIn K (.ref f2) = true) (bDu : Binds K fd2 ["_law_wires_here", "_law_late_of", "_law_run"] []) (gRepr : mg "repr" = none) (gIs : mg "isinstance" = none) (gList : mg "list" = none) : FnG P w K mg base CX0 6 f fd ["_law_made", "_law_wires_here", "_law_late_of"] (spRight K cl dd c CW) := by
  refine F.okG scLRight (fun vs H Q E h => ?_) (fun cdv A ou s H vs Q E hr guard h => ?_)
  · obtain ⟨p, wl, d, nm, ws, ns, rfl, _⟩ := h
    rfl
  · obtain ⟨p, wl, d, nm, ws, ns, rfl, wv, ok, al, oks, hw, hd, kk⟩ := h
    have nd := scLRight.nd
    have hr5 : Room 5 _ := hr
    have hr1 : Room 1 _ := hr.mono (by decide)
    have hu := hu_of hr
    have un := hr.un
    have hun := hr.units
    have R : ∀ {X : Cx}, X.A = A.deeper (envOfC "_law_right" (defScope sLRight) s.heap.objs.size f cdv) → CallR X (.builtin "repr") (rReprD X.K) := fun {X} e => call_reprD (by rw [e]; exact guard) (by rw [e]; omega)
    refine ⟨_, PSs.nox (pss_cons (ps_for PassesOwn.never rfl (pi_list (pe_lst (pa_cons pe_int (pa_cons pe_int (pa_cons pe_int (pa_cons pe_int (pa_cons pe_int (pa_cons pe_int pa_nil)))))))) (pg_name (i := 3) nd rfl (Or.inl rfl))
      (pss_cons (ps_set (i := 4) nd rfl (Or.inl rfl) (pe_call GTo hr5 rfl gTo kTo bTo .nil pass0 (pa_cons (pv 0) (pa_cons (pv 3) pa_nil))))
      (pss_cons (ps_if (PW.pt (pw_or (pt_not (pt_val (pe_callB call_isi (by rfl) gIs boot_isinstance (pa_cons (pv 4) (pa_cons (pe_bltn (v := .ty "list") rfl gList PyProof.Rows.boot_list rfl) pa_nil))))) (pw_or1 (pt_cmpR op_ne (pe_callB (R rfl) (by rfl) gRepr boot_repr (pa_cons (pv 4) pa_nil)) (pe_callB (R rfl) (by rfl) gRepr boot_repr (pa_cons (pe_call GDu hr1 rfl gDu kDu bDu .nil pass0 (pa_cons (pv 1) (pa_cons (pv 2) (pa_cons (pe_cmpR op_eq (pe_op op_mod (pv 3) pe_int) pe_int (nomark _)) pa_nil)))) pa_nil)) (nomark _))))) pss_never pss_nil)
      (pss_one (ps_expr (pe_bm PySem.F.plainAttrs_list PySem.F.slot_list_append PySem.F.type_list_append mt_append (pv 4) (pa_cons pe_int pa_nil)))))))
      (pss_one (ps_ret pe_bl))), ?_⟩
    refine ⟨(by show 6 ≤ sizeLine; decide), fun q hq => ?_⟩
    have s1 := Same.new (o := .lst [V.int 0, V.int 1, V.int 2, V.int 3, V.int 1, V.int 0]) (Same.refl H) hq
    have g1 : upd H q (.lst [V.int 0, V.int 1, V.int 2, V.int 3, V.int 1, V.int 0]) q = some (.lst [V.int 0, V.int 1, V.int 2, V.int 3, V.int 1, V.int 0]) := upd_same
    generalize upd H q (.lst [V.int 0, V.int 1, V.int 2, V.int 3, V.int 1, V.int 0]) = H1 at s1 g1
    refine ⟨q, rfl, ⟨_, SqL.of g1⟩, ?_⟩
    refine for_list (xs := [V.int 0, V.int 1, V.int 2, V.int 3, V.int 1, V.int 0]) (fun j σ G => ∃ w3 w4 : Option V, σ = [some (.ref p), some (.ref wl), some (.ref d), w3, w4] ∧ Same H1 G) ⟨_, _, rfl, Same.refl _⟩ (fun j σ G _ e => by obtain ⟨_, _, _, sm⟩ := e; exact SqL.of (sm _ _ g1)) ?_ ?_
    · rintro j v σ G ev ⟨w3, w4, rfl, sm⟩
      obtain ⟨n, rfl, n4⟩ : ∃ n : Nat, v = .int (n : Int) ∧ n < 4 := by
        have hm := List.mem_of_getElem? ev
        simp only [List.mem_cons, List.not_mem_nil, or_false] at hm
        rcases hm with rfl | rfl | rfl | rfl | rfl | rfl
        · exact ⟨0, rfl, by decide⟩
        · exact ⟨1, rfl, by decide⟩
        · exact ⟨2, rfl, by decide⟩
        · exact ⟨3, rfl, by decide⟩
        · exact ⟨1, rfl, by decide⟩
        · exact ⟨0, rfl, by decide⟩
      have t1 := s1.trans sm
      have hw1 : WiresAt K G wl ws := by
        obtain ⟨ps, h1, h2⟩ := hw
        exact ⟨ps, t1 _ _ h1, h2.imp fun v x ⟨q, e, h⟩ => ⟨q, e, Same.tup t1 h⟩⟩
      refine ⟨_, rfl, _, rfl, p, n, nm, ws, ns, rfl, n4, wv.keep t1, ok, al.imp fun x m h => h.keep t1, oks, fun l G2 s2 nl hl => ?_⟩
      have b2 : decide (V.int ((n : Int) % 2) = V.int 1) = decide (n = 1 ∨ n = 3) := by
        have : n = 0 ∨ n = 1 ∨ n = 2 ∨ n = 3 := by omega
        rcases this with rfl | rfl | rfl | rfl <;> rfl
      generalize hB : decide (n = 1 ∨ n = 3) = B at hl b2
      have hl' : G2 l = some (.lst (((ws.map fun w => w.delay + (if B then furth ns w.src else 0))).map natV)) := by
        rw [hl]
        unfold lensV
        rw [List.map_map]
        rfl
      have shp := nats_shaped (ws.map fun w => w.delay + (if B then furth ns w.src else 0))
      have shw : (PyData.list ((ws.map fun w => w.delay + (if B then furth ns w.src else 0)).map natD)).showable = true := by
        rw [PyData.showable]
        exact nats_show fun t ht => by
          obtain ⟨w, hw, rfl⟩ := List.mem_map.mp ht
          have h1 := ok.del w hw
          have h2 := furth_le oks w.src
          split <;> omega
      have shl : (PyData.list ((ws.map fun w => w.delay + (if B then furth ns w.src else 0)).map natD)).shown.length ≤ sizeLine := by
        have sz := shown_list (B := 13) (ds := (ws.map fun w => w.delay + (if B then furth ns w.src else 0)).map natD) fun z hz => by
          obtain ⟨t, ht, rfl⟩ := List.mem_map.mp hz
          obtain ⟨w, hw, rfl⟩ := List.mem_map.mp ht
          have h1 := ok.del w hw
          have h2 := furth_le oks w.src
          unfold natD
          refine PyData.shown_int_le ?_
          split <;> omega
        have few := ok.few
        rw [List.length_map, List.length_map] at sz
        exact Nat.le_trans sz (Nat.le_trans (show (13 + 2) * ws.length + 3 ≤ 1000 by omega) (by decide))
      obtain ⟨S, hS⟩ : ∃ S, (PyData.list ((ws.map fun w => w.delay + (if B then furth ns w.src else 0)).map natD)).shown = S := ⟨_, rfl⟩
      have t2 := t1.trans s2
      have hw2 : WiresAt K G2 wl ws := by
        obtain ⟨ps, h1, h2⟩ := hw
        exact ⟨ps, t2 _ _ h1, h2.imp fun v x ⟨q, e, h⟩ => ⟨q, e, Same.tup t2 h⟩⟩
      have hd2 : LateD G2 d ns ws := by
        obtain ⟨kvs, h1, h2⟩ := hd
        exact ⟨kvs, t2 _ _ h1, h2⟩
      refine ⟨_, rfl, _, _, _, _, true, rfl, ClsV.ty _, TyX.base (TyOf.lst hl'), kit_ty (by decide +kernel), _, rfl, ?_⟩
      have hl'' := hl'
      refine ite2 (fun z => absurd z (by decide)) (fun _ => ?_)
      refine ⟨_, rfl, l, _, S, rfl, .lst (SqL.of hl') (nats_dp _), shp, shw, shl, hS, ?_⟩
      refine ⟨_, rfl, _, rfl, _, rfl, _, _, rfl, rfl, (by show (0 : Int) < 2; decide), rfl, ?_⟩
      rw [b2]
      refine ⟨wl, d, B, ns, ws, rfl, hw2, hd2, ok.few, fun l2 G3 s3 nl2 hl2 => ?_⟩
      have hl2' : G3 l2 = some (.lst (((ws.map fun w => w.delay + (if B then furth ns w.src else 0))).map natV)) := by
        rw [hl2]
        unfold lensV
        rw [List.map_map]
        rfl
      refine ⟨l2, _, S, rfl, .lst (SqL.of hl2') (nats_dp _), shp, shw, shl, hS, rfl, _, rfl, ?_⟩
      refine ite2 (fun z => absurd z (by rw [decide_eq_true rfl]; decide)) (fun _ => ?_)
      have hl3 := s3 _ _ hl'
      refine ⟨_, rfl, .inl ⟨rfl, _, SqL.of hl3⟩, l, _, _, rfl, rfl, hl3, ?_, _, _, rfl, Same.past ((sm.trans s2).trans s3) (sm.free nl)⟩
      have few := ok.few
      rw [List.length_map, List.length_map]
      exact Nat.lt_of_lt_of_le (show ws.length < 100 by omega) (by decide)
    · rintro σ G ⟨w3, w4, rfl, sm⟩
      exact kk G (s1.trans sm)
end
end Sw
namespace Sw
open PySem PySem.Spec PyProof.Rows L2
/-! ### a node of another LATE is put -/
def putD (nds : List Nd) (x : Str) (k : Nk) (lt bg : Nat) : List Nd := nds.map fun m => if m.name = x then ⟨m.name, k, lt, bg⟩ else m
theorem furth_put {x : Str} {k : Nk} {lt bg : Nat} {s : Str} : ∀ {nds : List Nd}, (∃ m ∈ nds, m.name = s) → furth (putD nds x k lt bg) s = if s = x then lt * gvsN k else furth nds s
  | [], h => by
    obtain ⟨_, h, _⟩ := h
    cases h
  | m :: r, h => by
    have nm : ∀ m : Nd, (if m.name = x then (⟨m.name, k, lt, bg⟩ : Nd) else m).name = m.name := fun m => by split <;> rfl
    have ih := furth_put (x := x) (k := k) (lt := lt) (bg := bg) (s := s) (nds := r)
    unfold furth putD at *
    rw [List.map_cons, List.find?_cons, List.find?_cons, nm]
    by_cases z : m.name = s
    · rw [decide_eq_true z]
      subst z
      by_cases y : m.name = x
      · rw [if_pos y, if_pos y]
      · rw [if_neg y, if_neg y]
    · rw [decide_eq_false z]
      refine ih ?_
      obtain ⟨m', hm, e⟩ := h
      rcases List.mem_cons.mp hm with rfl | hm
      · exact absurd e z
      · exact ⟨m', hm, e⟩
theorem nmN_put {K : PySem.W.Frag} {cl : Srt → Addr} {dd : Addr} {H : Hp} {x : Str} {n : Addr} {k : Nk} {lt bg : Nat} (hn : NodeN K cl dd k lt bg n H) : ∀ {nm : List Nm} {nds : List Nd}, Al (NmN K cl dd H) nm nds → (∀ m ∈ nds, m.name = x → infN m.k = infN k) → Al (NmN K cl dd H) (putN nm x n) (putD nds x k lt bg)
  | [], [], _, _ => trivial
  | y :: nm, m :: nds, h, f => by
    refine ⟨?_, nmN_put hn h.2 fun m' hm => f m' (List.mem_cons_of_mem _ hm)⟩
    obtain ⟨e1, e2, e3⟩ := h.1
    dsimp only
    by_cases z : y.name = x
    · rw [if_pos z, if_pos (e1.symm.trans z)]
      exact ⟨e1, e2.trans (f m List.mem_cons_self (e1.symm.trans z)), hn⟩
    · rw [if_neg z, if_neg fun q => z (e1.trans q)]
      exact ⟨e1, e2, e3⟩
  | [], _ :: _, h, _ => h.elim
  | _ :: _, [], h, _ => h.elim
theorem put_late1 {s : Shp} {a : Ad} {m b m' : Nat} (h : s.lb = some (m, b)) : putK (shKV s a) (kS "late") (natV m') = shKV { s with lb := some (m', b) } a := by
  obtain ⟨c1, c2, c3, c4, c5, lb⟩ := s
  simp only at h
  subst h
  simp [putK, shKV, lbKV, ne_count_gives, ne_count_takes, ne_count_feeds, ne_count_more, ne_count_late, ne_count_begin, ne_gives_count, ne_gives_takes, ne_gives_feeds, ne_gives_more, ne_gives_late, ne_gives_begin, ne_takes_count, ne_takes_gives, ne_takes_feeds, ne_takes_more, ne_takes_late, ne_takes_begin, ne_feeds_count, ne_feeds_gives, ne_feeds_takes, ne_feeds_more, ne_feeds_late, ne_feeds_begin, ne_more_count, ne_more_gives, ne_more_takes, ne_more_feeds, ne_more_late, ne_more_begin, ne_late_count, ne_late_gives, ne_late_takes, ne_late_feeds, ne_late_more, ne_late_begin, ne_begin_count, ne_begin_gives, ne_begin_takes, ne_begin_feeds, ne_begin_more, ne_begin_late]
/-- the dict of how far each is further -/
def DLate (H : Hp) (d : Addr) (nds : List Nd) : Prop := ∃ kvs : List (Key × V), H d = some (.dK kvs) ∧ kvs.length ≤ 15 ∧ ∀ m ∈ nds, valV kvs (kS m.name) = some (natV (furth nds m.name))
theorem infN_of {k k' : Nk} (h : NkOk k) (h' : NkOk k') (e : tksN k = tksN k') (g : gvsN k = gvsN k') : infN k = infN k' := inf_like h h' e g
def spPutR (K : PySem.W.Frag) {CN CO CI : Addr} (cl : Srt → Addr) (dd : Addr) (c : ClsS K cl CN CO CI) (CW : Addr) : Sp := fun vs H Q _ => ∃ (p mp l nl d : Addr) (nm : List Nm) (ws : List Wr) (nds : List Nd) (as : List Ad) (cs : List Shp) (ns : List Str) (xs : List (Str × Shp)), vs = [.ref p, .ref mp, .ref l, .ref nl, .ref d] ∧ PotAt H p ∧ (∀ F, Kept p H F → WvAt K (sorts cl dd c) CW F mp nm ws) ∧ WvOk nm ws ∧ Al (NmN K cl dd H) nm nds ∧ (∀ n ∈ nds, NdOk n) ∧ Al NdS nds xs ∧ xs.Perm (ns.zip cs) ∧ Shs H l as cs ∧ p ∉ l :: flat as ∧ H nl = some (.lst (ns.map V.str)) ∧ ns.length = cs.length ∧ cs.length ≤ 15 ∧ ns.Nodup ∧ (∀ c ∈ cs, OneOk c) ∧ DLate H d nds ∧ d ≠ p ∧ ∀ H', Kept p H H' → PotAt H' p → Q (.bl true) H'
section
variable {P : Program} {w : World} {K : PySem.W.Frag} {mg : Str → Option Value} {base : Heap} {f f1 f2 f3 f4 f5 f6 f7 f8 f9 C CN CO CI CW CU dd : Addr} {cl : Srt → Addr} {fd fd1 fd2 fd3 fd4 fd5 fd6 fd7 fd8 fd9 : FuncData}
abbrev nLPutRight : List Str := ["_law_pot_here", "_law_made", "_law_shapes_here", "_law_names_here", "_law_late_of", "_law_some", "_law_k", "_law_one", "_law_put"]
theorem scLPutRight : FnScope nLPutRight ["_law_pot_here", "_law_made", "_law_shapes_here", "_law_names_here", "_law_late_of"] (defScope sLPutRight) := ⟨rfl, rfl, rfl, by decide +kernel, rfl, by decide +kernel, by decide +kernel⟩
theorem ok_putRight (c : ClsS K cl CN CO CI) (F : FnP K "_law_put_right" sLPutRight f fd) (c0 : Cls K CW) (GD : FnOk P w K mg base CX0 1 f1 fd1 ["_law_pot_here", "_law_many"] spDigit) (gD : mg "_law_digit" = some (.ref f1)) (kD : PySem.W.keepIn K (.ref f1) = true) (bD : Binds K fd1 ["_law_pot_here", "_law_many"] [])
    (GN : FnOk P w K mg base CX0 7 f2 fd2 ["_law_pot_here", "_law_one"] (spNode K cl dd)) (gN : mg "_law_node" = some (.ref f2)) (kN : PySem.W.keepIn K (.ref f2) = true) (bN : Binds K fd2 ["_law_pot_here", "_law_one"] [])
    (GR : FnG P w K mg base CX0 6 f3 fd3 ["_law_made", "_law_wires_here", "_law_late_of"] (spRight K cl dd c CW)) (gR : mg "_law_right" = some (.ref f3)) (kR : PySem.W.keepIn K (.ref f3) = true) (bR : Binds K fd3 ["_law_made", "_law_wires_here", "_law_late_of"] [])
    (mP : Meth K CW "put" f4) (GP : FnOk P w K mg base CX0 7 f4 fd4 ["self", "name", "node"] (spPut K cl dd c CW)) (bP : Binds K fd4 ["self", "name", "node"] [])
    (mW : Meth K CW "wires" f5) (GW : FnOk P w K mg base CX0 1 f5 fd5 ["self"] (spWvWires K (sorts cl dd c) CW)) (bW : Binds K fd5 ["self"] [])
    (gEnumerate : mg "enumerate" = none) (gLen : mg "len" = none) (gDict : mg "dict" = none) : FnG P w K mg base CX0 8 f fd ["_law_pot_here", "_law_made", "_law_shapes_here", "_law_names_here", "_law_late_of"] (spPutR K cl dd c CW) := by
  refine F.okG scLPutRight (fun vs H Q E h => ?_) (fun cdv A ou s H vs Q E hr guard h => ?_)
  · obtain ⟨p, mp, l, nl, d, nm, ws, nds, as, cs, ns, xs, rfl, _⟩ := h
    rfl
  · obtain ⟨p, mp, l, nl, d, nm, ws, nds, as, cs, ns, xs, rfl, hp, wv, ok, al, oks, als, pxs, hs, np, hn, nlen, few, nodup, ones, hd, ndp, kk⟩ := h
    have nd := scLPutRight.nd
    have hr7 : Room 7 _ := hr
    have hrP : Room 7 _ := hr
    have hr6 : Room 6 _ := hr.mono (by decide)
    have hr1 : Room 1 _ := hr.mono (by decide)
    have hu := hu_of hr
    have hu6 := hr.units
    refine ⟨_, PSs.nox (pss_cons (ps_setLc (i := 5) (own := [("_law_k", 6), ("_law_one", 7)]) (g := (gTup K 2 (gCons (gName 6) (gCons (gName 7) gNil)))) (tt := _) rfl nd rfl rfl (sw_true rfl rfl rfl rfl) (pi_enum (by rfl) gEnumerate (pa_cons (pv 2) pa_nil)) (blkOk_by (N := nLPutRight) (sc := defScope sLPutRight) (by decide +kernel))
        (fun _ _ _ _ _ => (pg_tup rfl (pgs_cons (pg_name (i := 6) nd rfl (Or.inl rfl)) (pgs_cons (pg_name (i := 7) nd rfl (Or.inl rfl)) pgs_nil)))) (fun _ _ _ _ _ => (pts_one (PW.pt (pw_and (pt_cmpR (op_neDK (K := K) rfl hu6) (pe_dget hu (pv 7) pe_str (fun _ _ => rfl)) (pe_lst pa_nil) (nomark _)) (pw_and1 (pt_cmpR op_gt (pe_dget hu (pv 7) pe_str (fun _ _ => rfl)) pe_int (nomark _))))))) (fun _ _ _ _ _ => (pv 6)))
      (pss_cons (ps_if (pt_cmpR (op_eqD hu6) (pv 5) (pe_lst pa_nil) (nomark _)) (pss_one (ps_ret pe_bl)) pss_nil)
      (pss_cons (ps_set (i := 6) nd rfl (Or.inl rfl) (pe_ix ix_list (pv 5) (pe_call GD hr1 rfl gD kD bD .nil pass0 (pa_cons (pv 0) (pa_cons (pe_callB call_len_seq (by rfl) gLen PySem.boot_len (pa_cons (pv 5) pa_nil)) pa_nil))) (fun _ _ => rfl)))
      (pss_cons (ps_set (i := 7) nd rfl (Or.inl rfl) (pe_callTy call_dictD (by rfl) gDict (by decide +kernel) (pa_cons (pe_ix ix_list (pv 2) (pv 6) (fun _ _ => rfl)) pa_nil)))
      (pss_cons (ps_dput hu (pv 7) pe_str (pe_call GD hr1 rfl gD kD bD .nil pass0 (pa_cons (pv 0) (pa_cons pe_int pa_nil))) rfl)
      (pss_cons (ps_set (i := 8) nd rfl (Or.inl rfl) (pe_callTy call_dictD (by rfl) gDict (by decide +kernel) (pa_cons (pv 4) pa_nil)))
      (pss_cons (ps_dput hu (pv 8) (pe_ix ix_list (pv 3) (pv 6) (fun _ _ => rfl)) (pe_op op_mul (pe_dget hu (pv 7) pe_str (fun _ _ => rfl)) (pe_dget hu (pv 7) pe_str (fun _ _ => rfl))) rfl)
      (pss_one (ps_ret (pe_callG GR hr6 guard rfl gR kR bR .nil pass0 (pa_cons (pe_meth (pv 1) c0 mP GP hrP bP .nil pass0 (pa_cons (pe_ix ix_list (pv 3) (pv 6) (fun _ _ => rfl)) (pa_cons (pe_call GN hr7 rfl gN kN bN .nil pass0 (pa_cons (pv 0) (pa_cons (pv 7) pa_nil))) pa_nil))) (pa_cons (pe_meth0 (pv 1) c0 mW GW hr1 bW .nil pass0) (pa_cons (pv 8) pa_nil))))))))))))), ?_⟩
    have lens := hs.2.1.len
    have nlp : l ≠ p := fun z => np (z ▸ List.mem_cons_self)
    have nnp := nl_ne hp hn
    -- those that can be put
    refine ⟨_, rfl, l, _, rfl, SqL.of hs.1, fun D hD => ?_⟩
    refine lc_it (walk_enum (xs := as.map fun a => V.ref a.d)) (fun j H' => (∃ ks : List Nat, H' D = some (.lst (ks.map natV)) ∧ ks.length ≤ j ∧ ∀ k ∈ ks, ∃ c, cs[k]? = some c ∧ c.tk ≠ [] ∧ 0 < c.gv) ∧ Same H H') ⟨⟨[], upd_same, Nat.le_refl _, fun _ h => (List.not_mem_nil h).elim⟩, Same.past (Same.refl _) hD⟩ (fun j H' _ e => SqL.of (e.2 _ _ hs.1)) (fun j v H' H'' hj e y => ?_) (fun H1 e => ?_)
    · obtain ⟨⟨ks, hk, kl, kin⟩, sm⟩ := e
      obtain ⟨TT, x1, x2, rfl, hTT, rfl, e1, e2⟩ := y
      cases e1
      have e2 : (as.map fun a => V.ref a.d)[j]? = some x2 := e2
      rw [List.getElem?_map] at e2
      obtain ⟨a, ea, rfl⟩ := Option.map_eq_some_iff.mp e2
      obtain ⟨c, ec, hc⟩ := hs.2.1.get ea
      have sT := Same.new (o := .tup [V.int ((j : Nat) : Int), V.ref a.d]) (Same.refl H') hTT
      have sGT := sm.trans sT
      refine ⟨TT, _, rfl, .inl (.inl upd_same), rfl, _, _, rfl, _, _, rfl, rfl, rfl, ?_⟩
      have hkT := sT _ _ hk
      generalize upd H' TT (.tup [V.int ((j : Nat) : Int), V.ref a.d]) = GT at sT sGT hkT
      have hcT := hc.keep sGT
      refine ⟨_, rfl, a.d, _, rfl, dg_takes hcT, (by show 0 ≤ sizeLine; decide), fun l0 h0 => ?_⟩
      have s3 := Same.new (o := .lst []) (Same.refl GT) h0
      have g3 : upd GT l0 (.lst []) l0 = some (.lst []) := upd_same
      generalize upd GT l0 (.lst []) = H3 at s3 g3
      have hc3 := hcT.keep s3
      refine ⟨.list (c.tk.map natD), .list [], .lst (SqL.of hc3.2.1) (nats_dp _), .lst (SqL.of g3) .nil, nats_shaped _, rfl, _, rfl, ?_⟩
      rw [eqv_nil]
      have sG3 := sGT.trans s3
      have stay : (∃ ks : List Nat, H3 D = some (.lst (ks.map natV)) ∧ ks.length ≤ j + 1 ∧ ∀ k ∈ ks, ∃ c, cs[k]? = some c ∧ c.tk ≠ [] ∧ 0 < c.gv) ∧ Same H H3 := ⟨⟨ks, s3 _ _ hkT, by omega, kin⟩, sG3⟩
      refine ite2 (fun z => ?_) (fun z => stay)
      have tne : c.tk ≠ [] := fun q => by
        rw [q] at z
        cases z
      refine ⟨_, rfl, a.d, _, rfl, dg_gives hc3, _, _, rfl, rfl, _, rfl, ?_⟩
      refine ite2 (fun z => ?_) (fun z => stay)
      have g0 : 0 < c.gv := by
        have := of_decide_eq_true z
        omega
      have jl := (List.getElem?_eq_some_iff.mp ec).1
      refine ⟨_, rfl, _, s3 _ _ hkT, ?_, ⟨ks ++ [j], ?_, ?_, fun k hk => ?_⟩, Same.past sG3 hD⟩
      · rw [List.length_map]
        exact Nat.lt_of_lt_of_le (show ks.length < 100 by omega) (by decide)
      · rw [List.map_append]
        exact upd_same
      · rw [List.length_append]
        exact Nat.succ_le_succ kl
      · rcases List.mem_append.mp hk with hk | hk
        · exact kin k hk
        · rw [List.mem_singleton.mp hk]
          exact ⟨c, ec, tne, g0⟩
    obtain ⟨⟨ks, hk, kl, kin⟩, s1⟩ := e
    dsimp only [gName]
    refine ⟨_, rfl, (by show 0 ≤ sizeLine; decide), fun l0 h0 => ?_⟩
    have s2 := Same.new (o := .lst []) s1 h0
    have g2 : upd H1 l0 (.lst []) l0 = some (.lst []) := upd_same
    have hk2 := Same.new (o := .lst []) (Same.refl H1) h0 _ _ hk
    generalize upd H1 l0 (.lst []) = H2 at s2 g2 hk2
    refine ⟨.list (ks.map natD), .list [], .lst (SqL.of hk2) (nats_dp _), .lst (SqL.of g2) .nil, nats_shaped _, rfl, _, rfl, ?_⟩
    rw [eqv_nil]
    refine ite2 (fun z => kk _ (Kept.same s2) (hp.keep s2)) (fun z => ?_)
    have kne : ks ≠ [] := fun q => by
      rw [q] at z
      exact z rfl
    have kpos := List.length_pos_iff.mpr kne
    have hp2 := hp.keep s2
    have nDp : D ≠ p := hp.ne hD
    refine ⟨_, rfl, _, rfl, _, rfl, D, _, rfl, .inl (SqL.of hk2), p, _, rfl, hp2, by rw [List.length_map]; omega, by rw [List.length_map]; rw [List.length_map] at kl; omega, fun e H3 d0 d1 k3 hp3 => ?_⟩
    obtain ⟨e, rfl, el⟩ := nat_of d0 d1
    rw [List.length_map] at el
    obtain ⟨kx, ek⟩ : ∃ k, ks[e]? = some k := ⟨_, List.getElem?_eq_getElem (by omega)⟩
    obtain ⟨cx, ec, tne, g0⟩ := kin kx (List.mem_of_getElem? ek)
    have K3 : Kept p H H3 := (Kept.same s2).trans k3
    have hk3 := k3 _ _ nDp hk2
    refine ⟨D, _, _, natV kx, rfl, rfl, SqL.of hk3, atI_nat (by rw [List.getElem?_map, ek]; rfl), ?_⟩
    dsimp only [gName]
    have hs3 := hs.kept K3 np
    obtain ⟨a, ea, hA⟩ := hs3.2.1.get' ec
    have kl' := (List.getElem?_eq_some_iff.mp ec).1
    have okc := ones cx (List.mem_of_getElem? ec)
    obtain ⟨_, _, g8, _, _, lt, bg, elb, _⟩ := id okc
    refine ⟨_, rfl, _, rfl, l, _, _, _, rfl, rfl, SqL.of hs3.1, atI_nat (j := kx) (by rw [List.getElem?_map, ea]; rfl), a.d, _, rfl, .inl hA.1, fun q hq => ?_⟩
    dsimp only [gName]
    have s4 := Same.new (o := .dK (shKV cx a)) (Same.refl H3) hq
    have g4 : upd H3 q (.dK (shKV cx a)) q = some (.dK (shKV cx a)) := upd_same
    have qp : q ≠ p := hp3.ne hq
    have hp4 := hp3.keep s4
    have nqt : a.t ≠ q := fun z => by
      have := hA.2.1
      rw [z, hq] at this
      cases this
    have nqf : a.f ≠ q := fun z => by
      have := hA.2.2
      rw [z, hq] at this
      cases this
    obtain ⟨md, mt, mf⟩ := mem_flat (List.mem_of_getElem? ea)
    have off : ∀ b, b ∈ flat as → b ≠ p := fun b hb z => np (z ▸ List.mem_cons_of_mem _ hb)
    generalize upd H3 q (.dK (shKV cx a)) = H4 at s4 g4 hp4
    refine ⟨_, rfl, p, _, rfl, hp4, by decide, by decide, fun e5 H5 d0 d1 k5 hp5 => ?_⟩
    obtain ⟨n5, rfl, n5l⟩ := nat_of d0 d1
    have g5 := k5 _ _ qp g4
    refine ⟨_, rfl, q, _, rfl, DPut.k (k := kS "late") (v := natV n5) g5 (Nat.lt_of_le_of_lt sh_len (by decide)), ?_⟩
    rw [put_late1 elb]
    have K5 := (K3.trans (Kept.same s4)).trans k5
    have hA6 : ShAt (upd H5 q (.dK (shKV { cx with lb := some (n5, bg) } a))) ⟨q, a.t, a.f⟩ { cx with lb := some (n5, bg) } := ⟨upd_same, by rw [upd_ne nqt]; exact k5 _ _ (off _ mt) (s4 _ _ hA.2.1), by rw [upd_ne nqf]; exact k5 _ _ (off _ mf) (s4 _ _ hA.2.2)⟩
    have hp6 : PotAt (upd H5 q (.dK (shKV { cx with lb := some (n5, bg) } a))) p := hp5.upd qp
    have K6 : Kept p H (upd H5 q (.dK (shKV { cx with lb := some (n5, bg) } a))) := K5.past (K3.free hp3 hq)
    generalize upd H5 q (.dK (shKV { cx with lb := some (n5, bg) } a)) = H6 at hA6 hp6 K6
    obtain ⟨kvs, hdk, kvl, hv⟩ := hd
    refine ⟨_, rfl, d, kvs, rfl, .inl (K6 _ _ ndp hdk), fun r hr7 => ?_⟩
    dsimp only [gName]
    have s7 := Same.new (o := .dK kvs) (Same.refl H6) hr7
    have g7 : upd H6 r (.dK kvs) r = some (.dK kvs) := upd_same
    generalize upd H6 r (.dK kvs) = H7 at s7 g7
    have hA7 := hA6.keep s7
    have K7 := K6.trans (Kept.same s7)
    have hp7 := hp6.keep s7
    obtain ⟨nx, en⟩ : ∃ x, ns[kx]? = some x := ⟨_, List.getElem?_eq_getElem (by omega)⟩
    have ens : (ns.map V.str)[kx]? = some (.str nx) := by rw [List.getElem?_map, en]; rfl
    have rp : r ≠ p := hp6.ne hr7
    have rH : H r = none := K6.free hp6 hr7
    have ev : V.int ((n5 : Int) * (cx.gv : Int)) = natV (n5 * cx.gv) := by
      unfold natV
      rw [Int.natCast_mul]
    refine ⟨_, rfl, q, _, rfl, dg_late (a := ⟨q, a.t, a.f⟩) hA7 rfl, _, rfl, q, _, rfl, dg_gives (a := ⟨q, a.t, a.f⟩) hA7, _, _, rfl, rfl, .inl ⟨by omega, by omega⟩, _, rfl, _, rfl, _, rfl, nl, _, _, _, rfl, rfl, SqL.of (K7 _ _ nnp hn), atI_nat ens, r, _, rfl, DPut.k (k := kS nx) g7 (Nat.lt_of_le_of_lt kvl (by decide)), ?_⟩
    have hA8 : ShAt (upd H7 r (.dK (putK kvs (kS nx) (natV (n5 * cx.gv))))) ⟨q, a.t, a.f⟩ { cx with lb := some (n5, bg) } := hA7.at fun b hb o e => by
      rw [upd_ne]
      · exact e
      · rintro rfl
        rcases hb with h | h | h
        · exact absurd hr7 (by rw [h, hA6.1]; exact fun z => by cases z)
        · exact absurd hr7 (by rw [h, hA6.2.1]; exact fun z => by cases z)
        · exact absurd hr7 (by rw [h, hA6.2.2]; exact fun z => by cases z)
    have g8 : upd H7 r (.dK (putK kvs (kS nx) (natV (n5 * cx.gv)))) r = some (.dK (putK kvs (kS nx) (natV (n5 * cx.gv)))) := upd_same
    have K8 : Kept p H (upd H7 r (.dK (putK kvs (kS nx) (natV (n5 * cx.gv))))) := K7.past rH
    have hp8 : PotAt (upd H7 r (.dK (putK kvs (kS nx) (natV (n5 * cx.gv))))) p := hp7.upd rp
    dsimp only
    rw [ev]
    generalize upd H7 r (.dK (putK kvs (kS nx) (natV (n5 * cx.gv)))) = H8 at hA8 g8 K8 hp8
    -- whose place it is
    have zm : (nx, cx) ∈ ns.zip cs := List.mem_of_getElem? (i := kx) (by rw [List.getElem?_zip_eq_some]; exact ⟨en, ec⟩)
    obtain ⟨jx, ejx⟩ := List.getElem?_of_mem (pxs.mem_iff.mpr zm)
    obtain ⟨m, em, nds1⟩ := als.get' ejx
    obtain ⟨x, exx, nmx⟩ := al.get' em
    have mm := List.mem_of_getElem? em
    have xm := List.mem_of_getElem? exx
    have hxn : x.name = nx := nmx.1.trans nds1.1
    have only : ∀ m' ∈ nds, m'.name = nx → tksN m'.k = cx.tk ∧ gvsN m'.k = cx.gv := fun m' hm' e => by
      obtain ⟨i, ei⟩ := List.getElem?_of_mem hm'
      obtain ⟨y, ey, hy⟩ := als.get ei
      have ym := pxs.mem_iff.mp (List.mem_of_getElem? ey)
      obtain ⟨i2, ei2⟩ := List.getElem?_of_mem ym
      rw [List.getElem?_zip_eq_some] at ei2
      have y1 : y.1 = nx := hy.1.symm.trans e
      have i12 : i2 = kx := (List.getElem?_inj (List.getElem?_eq_some_iff.mp ei2.1).1 nodup).mp (by rw [ei2.1, en, y1])
      have yc : y.2 = cx := by
        have := ei2.2
        rw [i12, ec] at this
        exact (Option.some.inj this).symm
      exact ⟨by rw [hy.2.1, yc], by rw [hy.2.2.1, yc]⟩
    have okc' : OneOk { cx with lb := some (n5, bg) } := by
      obtain ⟨o1, o2, o3, o4, o5, lt', bg', ob, o6, o7, _⟩ := id okc
      rw [elb] at ob
      cases ob
      exact ⟨o1, o2, o3, o4, o5, n5, bg, rfl, by omega, o7, fun h => by
        rcases h with h | h
        · exact absurd h tne
        · exact absurd (show cx.gv = 0 from h) (by omega)⟩
    have wv8 := wv _ K8
    obtain ⟨dx, d0_, dl, ld, dv, hmp, _⟩ := id wv8
    refine ⟨_, rfl, mp, dx, _, rfl, hmp, rfl, _, rfl, _, rfl, nl, _, _, _, rfl, rfl, SqL.of (K8 _ _ nnp hn), atI_nat ens, ?_⟩
    refine ⟨_, rfl, _, rfl, p, ⟨q, a.t, a.f⟩, { cx with lb := some (n5, bg) }, n5, bg, rfl, hp8, hA8, qp, off _ mt, off _ mf, okc', rfl, fun n k bg' H9 nn k9 hp9 hn9 h1 h2 h3 h4 => ?_⟩
    have K9 := K8.trans k9
    have wv9 := wv _ K9
    have al9 : Al (NmN K cl dd H9) nm nds := al.imp fun x m ⟨e1, e2, h⟩ => ⟨e1, e2, h.keptP K9 hp⟩
    have nmx9 : NmN K cl dd H9 x m := by
      obtain ⟨e1, e2, h⟩ := nmx
      exact ⟨e1, e2, h.keptP K9 hp⟩
    refine ⟨mp, n, nm, ws, x, m.k, k, m.lt, m.bg, n5, bg', by rw [hxn]; rfl, wv9, ok, xm, nmx9.2.2, hn9, (oks m mm).1, h1, nmx9.2.1, h3.trans nds1.2.1.symm, h4.trans nds1.2.2.1.symm, fun qw H10 s10 nq wvq => ?_⟩
    have wv10 := wv9.keep s10
    obtain ⟨dx', d0', dl', ld', dv', hmp', _⟩ := id wv10
    refine ⟨_, rfl, mp, dx', _, rfl, hmp', rfl, mp, nm, ws, rfl, wv10, fun wl H11 s11 nwl hwl => ?_⟩
    have t11 := s10.trans s11
    have oksP : ∀ n' ∈ putD nds nx k n5 bg', NdOk n' := fun n' hn' => by
      obtain ⟨m', hm', rfl⟩ := List.mem_map.mp hn'
      split
      · exact ⟨h1, h2⟩
      · exact oks m' hm'
    refine ⟨_, rfl, qw, wl, r, putN nm x.name n, ws, putD nds nx k n5 bg', rfl, wvq.keep s11, ok.congr (putN_map nm x.name n), ?_, oksP, hwl, ?_, fun H12 s12 => ?_⟩
    · rw [hxn]
      refine nmN_put (hn9.keep t11) (al9.imp fun x m h => h.keep t11) fun m' hm' e => ?_
      obtain ⟨o1, o2⟩ := only m' hm' e
      exact infN_of (oks m' hm').1 h1 (o1.trans h3.symm) (o2.trans h4.symm)
    · refine ⟨_, t11 _ _ (k9 _ _ rp g8), fun w hw => ?_⟩
      obtain ⟨y, hy, ey, _⟩ := ok.src w hw
      obtain ⟨i, ei⟩ := List.getElem?_of_mem hy
      obtain ⟨m', em', hm'⟩ := al.get ei
      have mm' := List.mem_of_getElem? em'
      have nme : m'.name = w.src := hm'.1.symm.trans ey
      rw [valV_put, furth_put ⟨m', mm', nme⟩]
      by_cases z : w.src = nx
      · rw [if_pos (by rw [z]), if_pos z, h4]
      · rw [if_neg (fun q => z (Sum.inr.inj q)), if_neg z, ← nme]
        exact hv m' mm'
    · exact kk H12 (K9.trans (Kept.same (t11.trans s12))) (hp9.keep (t11.trans s12))
end
end Sw
namespace Sw
open PySem PySem.Spec PyProof.Rows L2
/-! ### a weave can be made of what is drawn -/
theorem nmAt_get {ns : List Str} {k : Nat} {x : Str} (e : ns[k]? = some x) : nmAt ns k = x := by
  unfold nmAt
  rw [e]
  rfl
theorem nmAt_some {ns : List Str} {k : Nat} (h : k < ns.length) : ns[k]? = some (nmAt ns k) := by
  unfold nmAt
  rw [List.getElem?_eq_getElem h]
  rfl
theorem fdAt_get {cs : List Shp} {k : Nat} {c : Shp} (e : cs[k]? = some c) : fdAt cs k = c.fd := by
  unfold fdAt
  rw [e]
  rfl
theorem wRow_mem {ns : List Str} {ds fd : List Nat} {k n : Nat} {w : Wr} : ∀ {m : Nat}, w ∈ wRow ns ds fd k n m ↔ ∃ i, i < m ∧ w = ⟨nmAt ns ((fd[i]?).getD 0), nmAt ns k, i, (ds[n + i]?).getD 0⟩
  | 0 => ⟨fun h => (by cases h), fun ⟨i, h, _⟩ => absurd h (Nat.not_lt_zero _)⟩
  | m + 1 => by
    rw [wRow, List.mem_append, wRow_mem, List.mem_singleton]
    constructor
    · rintro (⟨i, h, e⟩ | e)
      · exact ⟨i, by omega, e⟩
      · exact ⟨m, by omega, e⟩
    · rintro ⟨i, h, e⟩
      rcases Nat.lt_or_ge i m with q | q
      · exact .inl ⟨i, q, e⟩
      · have : i = m := by omega
        subst this
        exact .inr e
theorem wPart_mem {ns : List Str} {ds : List Nat} {cs : List Shp} {w : Wr} : ∀ {j : Nat}, w ∈ wPart ns ds cs j ↔ ∃ k, k < j ∧ w ∈ wRow ns ds (fdAt cs k) k (wPart ns ds cs k).length (fdAt cs k).length
  | 0 => ⟨fun h => (by cases h), fun ⟨i, h, _⟩ => absurd h (Nat.not_lt_zero _)⟩
  | j + 1 => by
    rw [wPart, List.mem_append, wPart_mem]
    constructor
    · rintro (⟨i, h, e⟩ | e)
      · exact ⟨i, by omega, e⟩
      · exact ⟨j, by omega, e⟩
    · rintro ⟨i, h, e⟩
      rcases Nat.lt_or_ge i j with q | q
      · exact .inl ⟨i, q, e⟩
      · have : i = j := by omega
        subst this
        exact .inr e
theorem wRow_nodup {ns : List Str} {ds fd : List Nat} {k n : Nat} : ∀ m, ((wRow ns ds fd k n m).map fun w => (w.goal, w.place)).Nodup
  | 0 => List.nodup_nil
  | m + 1 => by
    rw [wRow, List.map_append]
    refine List.nodup_append.mpr ⟨wRow_nodup m, List.nodup_cons.mpr ⟨List.not_mem_nil, List.nodup_nil⟩, fun a ha b hb e => ?_⟩
    obtain ⟨w, hw, rfl⟩ := List.mem_map.mp ha
    obtain ⟨i, h, rfl⟩ := wRow_mem.mp hw
    rw [List.map_cons, List.map_nil, List.mem_singleton] at hb
    subst hb
    have : i = m := congrArg Prod.snd e
    omega
theorem wPart_nodup {ns : List Str} {ds : List Nat} {cs : List Shp} (nd : ns.Nodup) : ∀ {j : Nat}, j ≤ ns.length → ((wPart ns ds cs j).map fun w => (w.goal, w.place)).Nodup
  | 0, _ => List.nodup_nil
  | j + 1, h => by
    rw [wPart, List.map_append]
    refine List.nodup_append.mpr ⟨wPart_nodup nd (by omega), wRow_nodup _, fun a ha b hb e => ?_⟩
    obtain ⟨w, hw, rfl⟩ := List.mem_map.mp ha
    obtain ⟨v, hv, rfl⟩ := List.mem_map.mp hb
    obtain ⟨k, kj, hw⟩ := wPart_mem.mp hw
    obtain ⟨i, _, rfl⟩ := wRow_mem.mp hw
    obtain ⟨i', _, rfl⟩ := wRow_mem.mp hv
    have q : nmAt ns k = nmAt ns j := congrArg Prod.fst e
    have kj2 : k = j := (List.getElem?_inj (show k < ns.length by omega) nd).mp (show ns[k]? = ns[j]? from by rw [nmAt_some (k := k) (by omega), nmAt_some (k := j) (by omega), q])
    omega
theorem FinOk.lates {cs cs' : List Shp} (h : FinOk cs) (l : cs'.length = cs.length) (r : ∀ (i : Nat) (c : Shp), cs[i]? = some c → ∃ c1, cs'[i]? = some c1 ∧ LtR c c1) : FinOk cs' := fun i c1 e1 => by
  have il := (List.getElem?_eq_some_iff.mp e1).1
  have ec : cs[i]? = some cs[i] := List.getElem?_eq_getElem (by omega)
  obtain ⟨c2, e2, lt, bg, rfl, _⟩ := r i _ ec
  rw [e1] at e2
  cases e2
  rcases h i _ ec with q | ⟨b1, b2, b3, b4, b5, b6⟩
  · exact .inl q
  · refine .inr ⟨b1, b2, b3, b4, fun k hk => ?_, b6⟩
    obtain ⟨c0, e0, g⟩ := b5 k hk
    obtain ⟨c3, e3, lt', bg', rfl, _⟩ := r k c0 e0
    exact ⟨_, e3, g⟩
/-- a node by its shape -/
def Like (x : Nm) (c : Shp) : Prop := x.inf.ts = c.tk ∧ (x.inf.out = true ↔ c.gv = 0) ∧ (x.inf.inl = true ↔ c.tk = [])
theorem like_of {K : PySem.W.Frag} {cl : Srt → Addr} {dd : Addr} {H : Hp} {x : Nm} {n : Nd} {y : Str × Shp} (h : NmN K cl dd H x n) (ok : NdOk n) (s : NdS n y) : x.name = y.1 ∧ Like x y.2 := by
  obtain ⟨e1, e2, _⟩ := h
  obtain ⟨s1, s2, s3, _⟩ := s
  refine ⟨e1.trans s1, by rw [e2]; exact s2, ?_, ?_⟩
  · rw [e2, ← s3]
    exact (gv_out ok.1).symm
  · rw [e2, ← s2]
    exact (tk_inl ok.1).symm
theorem wv_ok {K : PySem.W.Frag} {cl : Srt → Addr} {dd : Addr} {H : Hp} {nm : List Nm} {nds : List Nd} {xs : List (Str × Shp)} {ns : List Str} {ds : List Nat} {cs : List Shp} {ws : List Wr} (fin : FinOk cs) (nd : ns.Nodup) (nok : ∀ x ∈ ns, NmOk x) (nlen : ns.length = cs.length) (few : cs.length ≤ 15) (sum : fdSum cs ≤ 48) (dok : ∀ d ∈ ds, d ≤ 2000) (pw : ws.Perm (wPart ns ds cs cs.length))
    (al : Al (NmN K cl dd H) nm nds) (oks : ∀ n ∈ nds, NdOk n) (als : Al NdS nds xs) (px : xs.Perm (ns.zip cs)) : WvOk nm ws := by
  have names : (nm.map Nm.name).Perm ns := by
    have e1 := nmN_names al
    have e2 : ∀ {a : List Nd} {b : List (Str × Shp)}, Al NdS a b → a.map Nd.name = b.map Prod.fst := by
      intro a
      induction a with
      | nil =>
        intro b h
        cases b with
        | nil => rfl
        | cons _ _ => exact h.elim
      | cons x r ih =>
        intro b h
        cases b with
        | nil => exact h.elim
        | cons y t => rw [List.map_cons, List.map_cons, ih h.2, h.1.1]
    rw [e1, e2 als]
    have := px.map Prod.fst
    rw [List.map_fst_zip (by omega)] at this
    exact this
  have to : ∀ (k : Nat) (c : Shp), cs[k]? = some c → ∃ x ∈ nm, x.name = nmAt ns k ∧ Like x c := fun k c ec => by
    have kl := (List.getElem?_eq_some_iff.mp ec).1
    have zm : (nmAt ns k, c) ∈ ns.zip cs := List.mem_of_getElem? (i := k) (by rw [List.getElem?_zip_eq_some]; exact ⟨nmAt_some (by omega), ec⟩)
    obtain ⟨j, ej⟩ := List.getElem?_of_mem (px.mem_iff.mpr zm)
    obtain ⟨m, em, s⟩ := als.get' ej
    obtain ⟨x, ex, h⟩ := al.get' em
    obtain ⟨a, b⟩ := like_of h (oks m (List.mem_of_getElem? em)) s
    exact ⟨x, List.mem_of_getElem? ex, a, b⟩
  have back : ∀ x ∈ nm, ∃ k c, cs[k]? = some c ∧ x.name = nmAt ns k ∧ Like x c := fun x hx => by
    obtain ⟨i, ei⟩ := List.getElem?_of_mem hx
    obtain ⟨m, em, h⟩ := al.get ei
    obtain ⟨y, ey, s⟩ := als.get em
    obtain ⟨k, ek⟩ := List.getElem?_of_mem (px.mem_iff.mp (List.mem_of_getElem? ey))
    rw [List.getElem?_zip_eq_some] at ek
    obtain ⟨a, b⟩ := like_of h (oks m (List.mem_of_getElem? em)) s
    exact ⟨k, y.2, ek.2, a.trans (nmAt_get ek.1).symm, b⟩
  have wire : ∀ w ∈ ws, ∃ k c i a, cs[k]? = some c ∧ c.fd[i]? = some a ∧ w.src = nmAt ns a ∧ w.goal = nmAt ns k ∧ w.place = i ∧ w.delay ≤ 2000 := fun w hw => by
    obtain ⟨k, kl, hw⟩ := wPart_mem.mp (pw.mem_iff.mp hw)
    have ec : cs[k]? = some cs[k] := List.getElem?_eq_getElem kl
    rw [fdAt_get ec] at hw
    obtain ⟨i, il, rfl⟩ := wRow_mem.mp hw
    have ea : cs[k].fd[i]? = some cs[k].fd[i] := List.getElem?_eq_getElem il
    refine ⟨k, cs[k], i, cs[k].fd[i], ec, ea, by rw [ea]; rfl, rfl, rfl, ?_⟩
    show (ds[_]?).getD 0 ≤ 2000
    cases e : ds[(wPart ns ds cs k).length + i]? with
    | none => exact Nat.zero_le _
    | some d => exact dok d (List.mem_of_getElem? e)
  have made : ∀ (k : Nat) (c : Shp) (i a : Nat), cs[k]? = some c → c.fd[i]? = some a → ∃ w ∈ ws, w.src = nmAt ns a ∧ w.goal = nmAt ns k ∧ w.place = i := fun k c i a ec ea => by
    refine ⟨_, pw.mem_iff.mpr (wPart_mem.mpr ⟨k, (List.getElem?_eq_some_iff.mp ec).1, wRow_mem.mpr ⟨i, by rw [fdAt_get ec]; exact (List.getElem?_eq_some_iff.mp ea).1, rfl⟩⟩), ?_, rfl, rfl⟩
    rw [fdAt_get ec, ea]
    rfl
  have tkfd : ∀ (k : Nat) (c : Shp), cs[k]? = some c → c.tk.length = c.fd.length := fun k c ec => by
    rcases fin k c ec with ⟨h1, h2, _⟩ | ⟨_, _, h, _⟩
    · rw [h1, h2] <;> rfl
    · exact h
  have reach : ∀ (n k : Nat) (c : Shp), k < n → cs[k]? = some c → Reach nm ws (nmAt ns k) := by
    intro n
    induction n with
    | zero => exact fun k c h => absurd h (Nat.not_lt_zero _)
    | succ n ih =>
      intro k c kn ec
      rcases fin k c ec with ⟨h1, _, _⟩ | ⟨_, _, _, ⟨a, ak, ea⟩, h5, _⟩
      · obtain ⟨x, hx, e, l⟩ := to k c ec
        rw [← e]
        exact .inl hx (l.2.2.mpr h1)
      · obtain ⟨c0, e0, _⟩ := h5 a (List.mem_of_getElem? ea)
        obtain ⟨w, hw, w1, w2, _⟩ := made k c 0 a ec ea
        rw [← w2]
        refine .step hw ?_
        rw [w1]
        exact ih a c0 (by omega) e0
  have nml : nm.length = cs.length := by
    have := names.length_eq
    rw [List.length_map] at this
    omega
  refine ⟨⟨by omega, fun x hx => nok _ (names.mem_iff.mp (List.mem_map.mpr ⟨x, hx, rfl⟩)), names.nodup_iff.mpr nd⟩, ?_, fun w hw => ?_, fun w hw => ?_, fun w hw => ?_, fun i j w w' ei ej eg ep => ?_, fun x hx p hp => ?_, fun x hx => ?_⟩
  · rw [pw.length_eq, wPart_len (Nat.le_refl _)]
    exact Nat.le_trans (fdSum_take cs _) sum
  · obtain ⟨k, c, i, a, ec, ea, w1, w2, w3, _⟩ := wire w hw
    rcases fin k c ec with ⟨_, h2, _⟩ | ⟨_, _, _, _, h5, _⟩
    · rw [h2] at ea
      cases ea
    · obtain ⟨c0, e0, g⟩ := h5 a (List.mem_of_getElem? ea)
      obtain ⟨x, hx, e, l⟩ := to a c0 e0
      refine ⟨x, hx, e.trans w1.symm, ?_⟩
      cases o : x.inf.out with
      | false => rfl
      | true =>
        have := l.2.1.mp o
        omega
  · obtain ⟨k, c, i, a, ec, ea, w1, w2, w3, _⟩ := wire w hw
    obtain ⟨x, hx, e, l⟩ := to k c ec
    refine ⟨x, hx, e.trans w2.symm, ?_⟩
    rw [l.1, tkfd k c ec, w3]
    exact (List.getElem?_eq_some_iff.mp ea).1
  · obtain ⟨_, _, _, _, _, _, _, _, _, d⟩ := wire w hw
    omega
  · have ndp : (ws.map fun w => (w.goal, w.place)).Nodup := ((pw.map fun w => (w.goal, w.place)).nodup_iff).mpr (wPart_nodup nd (by omega))
    refine (List.getElem?_inj (by rw [List.length_map]; exact (List.getElem?_eq_some_iff.mp ei).1) ndp).mp ?_
    rw [List.getElem?_map, List.getElem?_map, ei, ej]
    show some (w.goal, w.place) = some (w'.goal, w'.place)
    rw [eg, ep]
  · obtain ⟨k, c, ec, e, l⟩ := back x hx
    rw [l.1, tkfd k c ec] at hp
    obtain ⟨w, hw, _, w2, w3⟩ := made k c p _ ec (List.getElem?_eq_getElem hp)
    exact ⟨w, hw, w2.trans e.symm, w3⟩
  · obtain ⟨k, c, ec, e, l⟩ := back x hx
    rw [e]
    exact reach (k + 1) k c (by omega) ec
end Sw
namespace Sw
open PySem PySem.Spec PyProof.Rows L2
/-! ### the dict of how far each is further -/
def ltOf (c : Shp) : Nat := (c.lb.map Prod.fst).getD 0
theorem mergeK_not {k : Key} : ∀ {kvs acc : List (Key × V)}, k ∉ kvs.map Prod.fst → valV (mergeK acc kvs) k = valV acc k
  | [], _, _ => rfl
  | (j, v) :: r, acc, h => by
    rw [List.map_cons, List.mem_cons, not_or] at h
    have ih := mergeK_not (acc := putK acc j v) h.2
    rw [valV_put, if_neg h.1] at ih
    exact ih
theorem mergeK_in {k : Key} {v : V} : ∀ {kvs acc : List (Key × V)}, (kvs.map Prod.fst).Nodup → (k, v) ∈ kvs → valV (mergeK acc kvs) k = some v
  | [], _, _, h => by cases h
  | (j, u) :: r, acc, nd, h => by
    rw [List.map_cons] at nd
    obtain ⟨nd1, nd2⟩ := List.nodup_cons.mp nd
    rcases List.mem_cons.mp h with e | h
    · cases e
      have := mergeK_not (acc := putK acc k v) nd1
      rw [valV_put, if_pos rfl] at this
      exact this
    · exact mergeK_in (acc := putK acc j u) nd2 h
theorem dlate {H : Hp} {d : Addr} {nds : List Nd} {ys : List (Str × Shp)} {xs : List Str} {cs : List Shp} (hd : H d = some (.dK (mergeK [] ((xs.map fun x => (Sum.inr x : Key)).zip (cs.map fun c => natV (ltOf c * c.gv)))))) (xnd : xs.Nodup) (xl : xs.length = cs.length) (few : cs.length ≤ 15) (als : Al NdS nds ys) (pys : ys.Perm (xs.zip cs)) : DLate H d nds := by
  have names : nds.map Nd.name = ys.map Prod.fst := by
    clear pys
    induction nds generalizing ys with
    | nil =>
      cases ys with
      | nil => rfl
      | cons _ _ => exact als.elim
    | cons m r ih =>
      cases ys with
      | nil => exact als.elim
      | cons y t => rw [List.map_cons, List.map_cons, ih als.2, als.1.1]
  have nnd : (nds.map Nd.name).Nodup := by
    rw [names]
    have := pys.map Prod.fst
    rw [List.map_fst_zip (by omega)] at this
    exact this.nodup_iff.mpr xnd
  have kf : ((xs.map fun x => (Sum.inr x : Key)).zip (cs.map fun c => natV (ltOf c * c.gv))).map Prod.fst = xs.map fun x => (Sum.inr x : Key) := List.map_fst_zip (by rw [List.length_map, List.length_map]; omega)
  refine ⟨_, hd, ?_, fun m hm => ?_⟩
  · refine Nat.le_trans (length_mergeK _ []) ?_
    rw [List.length_nil, Nat.zero_add, List.length_zip, List.length_map, List.length_map]
    omega
  · rw [furth_eq nnd hm]
    obtain ⟨i, ei⟩ := List.getElem?_of_mem hm
    obtain ⟨y, ey, s1, s2, s3, b, s4⟩ := als.get ei
    obtain ⟨k, ek⟩ := List.getElem?_of_mem (pys.mem_iff.mp (List.mem_of_getElem? ey))
    rw [List.getElem?_zip_eq_some] at ek
    refine mergeK_in (by rw [kf]; exact List.pairwise_map.mpr (xnd.imp fun h e => h (Sum.inr.inj e))) (List.mem_of_getElem? (i := k) ?_)
    rw [List.getElem?_zip_eq_some, List.getElem?_map, List.getElem?_map, ek.1, ek.2, s1, s3]
    refine ⟨rfl, ?_⟩
    show some (natV (ltOf y.2 * y.2.gv)) = some (natV (m.lt * y.2.gv))
    unfold ltOf
    rw [s4]
    rfl
end Sw
namespace Sw
open PySem PySem.Spec PyProof.Rows L2
/-! ### the law -/
theorem op_eqDK {X : Cx} {K : PySem.W.Frag} (h : X.K = K) (hu : X.A.units + 64 < cLine) : OpR X (compareOp .Eq) (rEqD K) := by
  subst h
  exact op_eqD hu
theorem ite_join {c : Bool} {A : Prop} {N : Hp → Prop} {H : Hp} (R : Hp → Prop) (hA : (∀ H', R H' → N H') → A) (h : R H) (rest : ∀ H', R H' → N H') : if c = true then A else N H := by
  split
  · exact hA rest
  · exact rest H h
theorem lates_fd {cs cs' : List Shp} (l : cs'.length = cs.length) (r : ∀ (i : Nat) (c : Shp), cs[i]? = some c → ∃ c1, cs'[i]? = some c1 ∧ LtR c c1) : cs'.map Shp.fd = cs.map Shp.fd := List.ext_getElem? fun i => by
  rw [List.getElem?_map, List.getElem?_map]
  cases e : cs[i]? with
  | none =>
    have h : cs'[i]? = none := by
      rw [List.getElem?_eq_none_iff] at e ⊢
      omega
    rw [h]
  | some c =>
    obtain ⟨c1, e1, lt, bg, rfl, _⟩ := r i c e
    rw [e1]
    rfl
theorem fdSum_eq {cs cs' : List Shp} (h : cs'.map Shp.fd = cs.map Shp.fd) : fdSum cs' = fdSum cs := by
  have e : ∀ cs : List Shp, fdSum cs = ((cs.map Shp.fd).map List.length).sum := fun cs => by
    unfold fdSum
    rw [List.map_map]
    rfl
  rw [e, e, h]
theorem one_of {cs cs' : List Shp} (fin : FinOk cs) (l : cs'.length = cs.length) (r : ∀ (i : Nat) (c : Shp), cs[i]? = some c → ∃ c1, cs'[i]? = some c1 ∧ LtR c c1) : ∀ c ∈ cs', OneOk c := fun c1 hc => by
  obtain ⟨i, ei⟩ := List.getElem?_of_mem hc
  have il := (List.getElem?_eq_some_iff.mp ei).1
  have ec : cs[i]? = some cs[i] := List.getElem?_eq_getElem (by omega)
  obtain ⟨c2, e2, lt, bg, rfl, h1, h2, h3⟩ := r i _ ec
  rw [ei] at e2
  cases e2
  rcases fin i _ ec with ⟨q1, q2, q3⟩ | ⟨b1, b2, b3, b4, b5, b6, b7, b8⟩
  · refine ⟨by show cs[i].tk.length ≤ 4; rw [q1]; exact Nat.zero_le _, fun t ht => ?_, by show cs[i].gv ≤ 8; omega, fun _ => q3, fun z => ?_, lt, bg, rfl, h1, h2, h3⟩
    · have ht : t ∈ cs[i].tk := ht
      rw [q1] at ht
      cases ht
    · have z : cs[i].gv = 0 := z
      omega
  · refine ⟨by show cs[i].tk.length ≤ 4; omega, b6, b7, fun z => ?_, b8, lt, bg, rfl, h1, h2, h3⟩
    have z : cs[i].tk = [] := z
    rw [z] at b3
    have b3 : 0 = cs[i].fd.length := b3
    omega
theorem wok0 : WvOk [] [] := ⟨⟨by decide, fun _ h => (List.not_mem_nil h).elim, List.nodup_nil⟩, by decide, fun _ h => (List.not_mem_nil h).elim, fun _ h => (List.not_mem_nil h).elim, fun _ h => (List.not_mem_nil h).elim, (fun i j w w' e => by cases e), fun _ h => (List.not_mem_nil h).elim, fun _ h => (List.not_mem_nil h).elim⟩
section
variable {P : Program} {w : World} {K : PySem.W.Frag} {mg : Str → Option Value} {base : Heap} {f f1 f2 f3 f4 f5 f6 f7 f8 f9 f10 f11 f12 f13 f14 C CN CO CI CW CU dd : Addr} {cl : Srt → Addr} {fd fd10 fd11 fd12 fd13 fd14 fd1 fd2 fd3 fd4 fd5 fd6 fd7 fd8 fd9 : FuncData}
abbrev nLaw : List Str := ["_law_script", "_law_k", "_law_pot_here", "_law_shapes_here", "_law_names_here", "_law_wires_here", "_law_made", "_law_late_of", "_law_others", "_law_one", "_law_wire", "_law_run"]
theorem scLaw : FnScope nLaw ["_law_script"] (defScope sLaw) := ⟨rfl, rfl, rfl, by decide +kernel, rfl, by decide +kernel, by decide +kernel⟩
def spLaw (K : PySem.W.Frag) : Sp := fun vs H Q _ => ∃ (a : Addr) (ns : List Int), vs = [.ref a] ∧ SqL K H a (ns.map V.int) ∧ ns.length ≤ 63 ∧ ∀ H', Q (.bl true) H'
theorem ok_law (c : ClsS K cl CN CO CI) (F : FnP K "law" sLaw f fd) (c0 : Cls K CW)
    (GPo : FnOk P w K mg base CX0 1 f1 fd1 ["_law_script", "_law_k"] (spPot K)) (gPo_ : mg "_law_pot" = some (.ref f1)) (kPo_ : PySem.W.keepIn K (.ref f1) = true) (bPo_ : Binds K fd1 ["_law_script", "_law_k"] [])
    (GSh : FnOk P w K mg base CX0 3 f2 fd2 ["_law_pot_here"] spShapes) (gSh_ : mg "_law_shapes" = some (.ref f2)) (kSh_ : PySem.W.keepIn K (.ref f2) = true) (bSh_ : Binds K fd2 ["_law_pot_here"] [])
    (GD : FnOk P w K mg base CX0 1 f3 fd3 ["_law_pot_here", "_law_many"] spDigit) (gD_ : mg "_law_digit" = some (.ref f3)) (kD_ : PySem.W.keepIn K (.ref f3) = true) (bD_ : Binds K fd3 ["_law_pot_here", "_law_many"] [])
    (GSo : FnOk P w K mg base CX0 2 f4 fd4 ["_law_pot_here", "_law_shapes_here"] spSpoil) (gSo_ : mg "_law_spoil" = some (.ref f4)) (kSo_ : PySem.W.keepIn K (.ref f4) = true) (bSo_ : Binds K fd4 ["_law_pot_here", "_law_shapes_here"] [])
    (GLa : FnOk P w K mg base CX0 2 f5 fd5 ["_law_pot_here", "_law_shapes_here", "_law_budget"] spLates) (gLa_ : mg "_law_lates" = some (.ref f5)) (kLa_ : PySem.W.keepIn K (.ref f5) = true) (bLa_ : Binds K fd5 ["_law_pot_here", "_law_shapes_here", "_law_budget"] [])
    (GNa : FnOk P w K mg base CX0 2 f6 fd6 ["_law_pot_here", "_law_many", "_law_taken"] spNames) (gNa_ : mg "_law_names" = some (.ref f6)) (kNa_ : PySem.W.keepIn K (.ref f6) = true) (bNa_ : Binds K fd6 ["_law_pot_here", "_law_many", "_law_taken"] [])
    (GWi : FnOk P w K mg base CX0 3 f7 fd7 ["_law_pot_here", "_law_shapes_here", "_law_names_here", "_law_delays_here"] (spWires K)) (gWi_ : mg "_law_wires" = some (.ref f7)) (kWi_ : PySem.W.keepIn K (.ref f7) = true) (bWi_ : Binds K fd7 ["_law_pot_here", "_law_shapes_here", "_law_names_here", "_law_delays_here"] [])
    (GDe : FnOk P w K mg base CX0 2 f8 fd8 ["_law_pot_here", "_law_many", "_law_budget"] spDelays) (gDe_ : mg "_law_delays" = some (.ref f8)) (kDe_ : PySem.W.keepIn K (.ref f8) = true) (bDe_ : Binds K fd8 ["_law_pot_here", "_law_many", "_law_budget"] [])
    (GNo : FnOk P w K mg base CX0 8 f9 fd9 ["_law_pot_here", "_law_shapes_here", "_law_names_here"] (spNodes K cl dd)) (gNo_ : mg "_law_nodes" = some (.ref f9)) (kNo_ : PySem.W.keepIn K (.ref f9) = true) (bNo_ : Binds K fd9 ["_law_pot_here", "_law_shapes_here", "_law_names_here"] [])
    (GRi : FnG P w K mg base CX0 6 f10 fd10 ["_law_made", "_law_wires_here", "_law_late_of"] (spRight K cl dd c CW)) (gRi_ : mg "_law_right" = some (.ref f10)) (kRi_ : PySem.W.keepIn K (.ref f10) = true) (bRi_ : Binds K fd10 ["_law_made", "_law_wires_here", "_law_late_of"] [])
    (GPR : FnG P w K mg base CX0 8 f11 fd11 ["_law_pot_here", "_law_made", "_law_shapes_here", "_law_names_here", "_law_late_of"] (spPutR K cl dd c CW)) (gPR_ : mg "_law_put_right" = some (.ref f11)) (kPR_ : PySem.W.keepIn K (.ref f11) = true) (bPR_ : Binds K fd11 ["_law_pot_here", "_law_made", "_law_shapes_here", "_law_names_here", "_law_late_of"] [])
    (MW : Mk K CW f12) (GW : FnOk P w K mg base CX0 5 f12 fd12 ["self", "nodes", "wires"] (spWvInit K (sorts cl dd c) CW)) (gW : mg "Weave" = some (.ref CW)) (bW : Binds K fd12 ["self", "nodes", "wires"] [])
    (mDl : Meth K CW "delayed" f13) (GDl : FnOk P w K mg base CX0 7 f13 fd13 ["self", "delays"] (spDelayed K (sorts cl dd c) CW)) (bDl : Binds K fd13 ["self", "delays"] [])
    {gB : List Value → List Value → List Value} (GFi : FnOk P w K mg base CX0 4 f14 fd14 ["weave", "lates"] (spFirst K cl dd c CW)) (gFi : mg "first_queues" = some (.ref f14)) (kFi : PySem.W.keepIn K (.ref f14) = true) (kbB : KBn K fd14 ["weave", "lates"] 1 ["lates"] gB (fun vs zs => vs ++ zs))
    (gRange : mg "range" = none) (gMax : mg "max" = none) (gMin : mg "min" = none) (gLen : mg "len" = none) (gDict : mg "dict" = none) (gZip : mg "zip" = none) (gAll : mg "all" = none) : FnG P w K mg base CX0 9 f fd ["_law_script"] (spLaw K) := by
  refine F.okG scLaw (fun vs H Q E h => ?_) (fun cdv A ou s H vs Q E hr guard h => ?_)
  · obtain ⟨a, ns, rfl, _⟩ := h
    rfl
  · obtain ⟨a, ns, rfl, hS, few, kk⟩ := h
    have nd := scLaw.nd
    have hr8 : Room 8 _ := hr
    have hr7 : Room 7 _ := hr.mono (by decide)
    have hr6 : Room 6 _ := hr.mono (by decide)
    have hr4 : Room 4 _ := hr.mono (by decide)
    have hr3 : Room 3 _ := hr.mono (by decide)
    have hr2 : Room 2 _ := hr.mono (by decide)
    have hr1 : Room 1 _ := hr.mono (by decide)
    have hu := hu_of hr
    have hu6 := hr.units
    refine ⟨_, PSs.nox (pss_cons (ps_for PassesOwn.never rfl (pi_range1 rfl gRange (pa_cons (pe_callB (call_max2 rfl) (by rfl) gMax (by decide +kernel) (pa_cons pe_int (pa_cons (pe_callB (call_min2 rfl) (by rfl) gMin (by decide +kernel) (pa_cons pe_int (pa_cons (pe_callB call_len_seq (by rfl) gLen PySem.boot_len (pa_cons (pv 0) pa_nil)) pa_nil))) pa_nil))) pa_nil)) (pg_name (i := 1) nd rfl (Or.inl rfl))
      (pss_cons (ps_set (i := 2) nd rfl (Or.inr rfl) (pe_call GPo hr1 rfl gPo_ kPo_ bPo_ .nil pass0 (pa_cons (pv 0) (pa_cons (pv 1) pa_nil))))
      (pss_cons (ps_set (i := 3) nd rfl (Or.inl rfl) (pe_call GSh hr3 rfl gSh_ kSh_ bSh_ .nil pass0 (pa_cons (pv 2) pa_nil)))
      (pss_cons (ps_if (pt_cmpR op_eq (pe_call GD hr1 rfl gD_ kD_ bD_ .nil pass0 (pa_cons (pv 2) (pa_cons pe_int pa_nil))) pe_int (nomark _)) (pss_one (ps_expr (pe_call GSo hr2 rfl gSo_ kSo_ bSo_ .nil pass0 (pa_cons (pv 2) (pa_cons (pv 3) pa_nil))))) pss_nil)
      (pss_cons (ps_expr (pe_call GLa hr2 rfl gLa_ kLa_ bLa_ .nil pass0 (pa_cons (pv 2) (pa_cons (pv 3) (pa_cons pe_int pa_nil)))))
      (pss_cons (ps_set (i := 4) nd rfl (Or.inl rfl) (pe_call GNa hr2 rfl gNa_ kNa_ bNa_ .nil pass0 (pa_cons (pv 2) (pa_cons (pe_callB call_len_seq (by rfl) gLen PySem.boot_len (pa_cons (pv 3) pa_nil)) (pa_cons (pe_lst pa_nil) pa_nil)))))
      (pss_cons (ps_set (i := 5) nd rfl (Or.inl rfl) (pe_call GWi hr3 rfl gWi_ kWi_ bWi_ .nil pass0 (pa_cons (pv 2) (pa_cons (pv 3) (pa_cons (pv 4) (pa_cons (pe_call GDe hr2 rfl gDe_ kDe_ bDe_ .nil pass0 (pa_cons (pv 2) (pa_cons pe_int (pa_cons pe_int pa_nil)))) pa_nil))))))
      (pss_cons (ps_set (i := 6) nd rfl (Or.inl rfl) (pe_make MW GW hr6 rfl gW bW .nil pass0 (pa_cons (pe_call GNo hr8 rfl gNo_ kNo_ bNo_ .nil pass0 (pa_cons (pv 2) (pa_cons (pv 3) (pa_cons (pv 4) pa_nil)))) (pa_cons (pv 5) pa_nil))))
      (pss_cons (ps_set (i := 7) nd rfl (Or.inl rfl) (pe_dictZip rfl rfl gDict PyProof.Rows.boot_dict rfl gZip (pa_cons (pv 4) (pa_cons (pe_lc (own := [("_law_one", 9)]) (g := (gName 9)) (tt := tYes) rfl nd (pi_list (pv 3)) (blkOk_by (N := nLaw) (sc := defScope sLaw) (by decide +kernel))
        (fun _ _ _ _ _ => (pg_name (i := 9) nd rfl (Or.inl rfl))) (fun _ _ _ _ _ => pts_nil) (fun _ _ _ _ _ => (pe_op op_mul (pe_dget hu (pv 9) pe_str (fun _ _ => rfl)) (pe_dget hu (pv 9) pe_str (fun _ _ => rfl))))) pa_nil))))
      (pss_cons (ps_if (pt_not (pt_val (pe_callG GRi hr6 guard rfl gRi_ kRi_ bRi_ .nil pass0 (pa_cons (pv 6) (pa_cons (pv 5) (pa_cons (pv 7) pa_nil)))))) pss_never pss_nil)
      (pss_cons (ps_setLc (i := 8) (own := [("_law_wire", 10)]) (g := (gName 10)) (tt := tYes) rfl nd rfl rfl (sw_true rfl rfl rfl rfl) (pi_list (pv 5)) (blkOk_by (N := nLaw) (sc := defScope sLaw) (by decide +kernel))
        (fun _ _ _ _ _ => (pg_name (i := 10) nd rfl (Or.inl rfl))) (fun _ _ _ _ _ => pts_nil) (fun _ _ _ _ _ => (pe_tup (pa_cons (pe_ix (ix_tupK (K := K) rfl) (pv 10) pe_int (fun _ _ => rfl)) (pa_cons (pe_ix (ix_tupK (K := K) rfl) (pv 10) pe_int (fun _ _ => rfl)) (pa_cons (pe_ix (ix_tupK (K := K) rfl) (pv 10) pe_int (fun _ _ => rfl)) (pa_cons (pe_call GD hr1 rfl gD_ kD_ bD_ .nil pass0 (pa_cons (pv 2) (pa_cons pe_int pa_nil))) pa_nil)))))))
      (pss_cons (ps_if (pt_not (pt_val (pe_callG GRi hr6 guard rfl gRi_ kRi_ bRi_ .nil pass0 (pa_cons (pe_meth (pv 6) c0 mDl GDl hr7 bDl .nil pass0 (pa_cons (pe_lc (own := [("_law_wire", 10)]) (g := (gName 10)) (tt := tYes) rfl nd (pi_list (pv 8)) (blkOk_by (N := nLaw) (sc := defScope sLaw) (by decide +kernel))
        (fun _ _ _ _ _ => (pg_name (i := 10) nd rfl (Or.inl rfl))) (fun _ _ _ _ _ => pts_nil) (fun _ _ _ _ _ => (pe_ix (ix_tupK (K := K) rfl) (pv 10) pe_int (fun _ _ => rfl)))) pa_nil)) (pa_cons (pv 8) (pa_cons (pv 7) pa_nil)))))) pss_never pss_nil)
      (pss_one (ps_if (PW.pt (pw_or (pt_not (pt_val (pe_callG GPR hr8 guard rfl gPR_ kPR_ bPR_ .nil pass0 (pa_cons (pv 2) (pa_cons (pv 6) (pa_cons (pv 3) (pa_cons (pv 4) (pa_cons (pv 7) pa_nil)))))))) (pw_or1 (pt_not (pt_val (pe_callG GRi hr6 guard rfl gRi_ kRi_ bRi_ .nil pass0 (pa_cons (pv 6) (pa_cons (pv 5) (pa_cons (pv 7) pa_nil))))))))) pss_never pss_nil))))))))))))))
      (pss_one (ps_ret (pe_callB (cr_all rfl) (by rfl) gAll (by decide +kernel) (pa_cons (pe_lc (own := [("_law_run", 11)]) (g := (gName 11)) (tt := tYes) rfl nd (pi_list (pe_lst (pa_cons pe_bl (pa_cons pe_bl pa_nil)))) (blkOk_by (N := nLaw) (sc := defScope sLaw) (by decide +kernel))
        (fun _ _ _ _ _ => (pg_name (i := 11) nd rfl (Or.inl rfl))) (fun _ _ _ _ _ => pts_nil) (fun _ _ _ _ _ => (pe_cmpR (op_eqDK (K := K) rfl hu6) (pe_callN GFi hr4 rfl gFi kFi kbB pass0 (pa_cons (pe_make MW GW hr6 rfl gW bW .nil pass0 (pa_cons (pe_lst pa_nil) (pa_cons (pe_lst pa_nil) pa_nil))) pa_nil) (pk_cons (pv 11) pk_nil)) (pe_lst pa_nil) (nomark _)))) pa_nil))))), ?_⟩
    refine ⟨_, rfl, a, _, rfl, .inl hS, _, _, rfl, _, _, rfl, _, rfl, ?_, ?_, ?_⟩
    · rw [List.length_map]
      split
      · split <;> omega
      · decide
    · rw [List.length_map]
      split
      · split <;> omega
      · decide
    obtain ⟨n, en, n8⟩ : ∃ n : Nat, (if (if ((ns.map V.int).length : Int) < 4 then ((ns.map V.int).length : Int) else 4) > 1 then (if ((ns.map V.int).length : Int) < 4 then ((ns.map V.int).length : Int) else 4) else 1).toNat = n ∧ n ≤ 63 := by
      refine ⟨_, rfl, ?_⟩
      rw [List.length_map]
      split
      · split <;> omega
      · decide
    rw [en]
    refine for_range (fun i σ G => ∃ (w1 w2 w3 w4 w5 w6 w7 w8 : Option V), σ = [some (.ref a), w1, w2, w3, w4, w5, w6, w7, w8, none, none, none] ∧ Same H G) ⟨_, _, _, _, _, _, _, _, rfl, Same.refl _⟩ ?_ ?_
    · rintro i σ G il ⟨w1, w2, w3, w4, w5, w6, w7, w8, rfl, sG⟩
      refine ⟨_, rfl, _, rfl, a, ns, i, congrArg (fun z => [V.ref a, V.int z]) (Int.zero_add _), sG.seq hS, by omega, fun p G1 fp s1 hp => ?_⟩
      refine ⟨_, rfl, p, rfl, hp, fun l as ss cs0 H2 made first few2 grown sum hs2 new2 k2 hp2 => ?_⟩
      have t2 : Same G H2 := Same.kept s1 fp k2
      have np2 : p ∉ l :: flat as := fun m => by
        have := new2 p m
        obtain ⟨_, _, _, _, _, hx⟩ := hp
        rw [this] at hx
        cases hx
      obtain ⟨fin0, lbn0⟩ := fin_ok made grown
      have len0 : cs0.length = ss.length := grown.len
      refine ⟨_, rfl, p, _, rfl, hp2, by decide, by decide, fun e3 H3 d0 d1 k3 hp3 => ⟨rfl, _, rfl, ?_⟩⟩
      have hs3 := hs2.kept k3 np2
      refine ite_join (R := fun F => ∃ cs, FinOk cs ∧ (∀ c ∈ cs, c.lb = none) ∧ cs.map Shp.fd = cs0.map Shp.fd ∧ Shs F l as cs ∧ PotAt F p ∧ KD (p :: l :: flat as) H3 F) (fun rest => ?_) ⟨cs0, fin0, lbn0, rfl, hs3, hp3, KD.refl⟩ (fun H4 hR => ?_)
      · refine ⟨_, rfl, _, rfl, p, l, as, cs0, rfl, hp3, hs3, np2, ?_, by omega, fin0, lbn0, fun cs' F f1 f2 f3 f4 f5 f6 => rest F ⟨cs', f1, f2, f3, f4, f5, f6⟩⟩
        rintro rfl
        obtain ⟨s0, e0, _⟩ := first
        rw [List.length_eq_zero_iff.mp len0.symm] at e0
        cases e0
      obtain ⟨cs1, fin1, lbn1, fd1_, hs4, hp4, kd4⟩ := hR
      have len1 : cs1.length = cs0.length := by
        have := congrArg List.length fd1_
        rwa [List.length_map, List.length_map] at this
      have g81 : ∀ c ∈ cs1, c.gv ≤ 8 := fun c hc => by
        obtain ⟨i, ei⟩ := List.getElem?_of_mem hc
        rcases fin1 i c ei with ⟨_, _, h⟩ | h
        · omega
        · exact h.2.2.2.2.2.2.1
      refine ⟨_, rfl, _, rfl, p, l, as, cs1, rfl, hp4, hs4, np2, by omega, lbn1, g81, fun cs H5 l5 late5 hs5 hp5 kd5 => ?_⟩
      have fin5 := fin1.lates l5 late5
      -- the names
      refine ⟨_, rfl, _, rfl, l, _, rfl, .inl (SqL.of hs5.1), (by show 0 ≤ sizeLine; decide), fun q0 hq0 => ?_⟩
      have s6 := Same.new (o := .lst []) (Same.refl H5) hq0
      have g6 : upd H5 q0 (.lst []) q0 = some (.lst []) := upd_same
      have nq0 := hp5.ne hq0
      generalize upd H5 q0 (.lst []) = H6 at s6 g6
      have lens := hs5.2.1.len
      refine ⟨p, q0, cs.length, [], by rw [List.length_map, lens]; rfl, hp5.keep s6, nq0, g6, by show 0 + cs.length ≤ 25; omega, (fun t h => by cases h), fun nl xs H7 xl xnd xok nnl k7 hp7 hnl => ?_⟩
      dsimp only [gName]
      have fdl := (lates_fd l5 late5).trans fd1_
      have hs7 := (hs5.keep s6).kept k7 np2
      refine ⟨_, rfl, _, rfl, _, rfl, _, rfl, p, rfl, hp7, fun dl ds H8 dlen dok ndl k8 hp8 hdl => ?_⟩
      have hs8 := hs7.kept k8 np2
      have nnp := nl_ne hp7 hnl
      have hn8 := k8 _ _ nnp hnl
      refine ⟨p, l, nl, dl, as, cs, xs, ds, rfl, hp8, hs8, np2, hn8, hdl, xl, by omega, by rw [fdSum_eq fdl]; exact sum, dlen, fun c hc k hk => ?_, fun wl ws H9 pw nwl k9 hp9 hwl => ?_⟩
      · obtain ⟨i, ei⟩ := List.getElem?_of_mem hc
        rcases fin5 i c ei with ⟨_, h, _⟩ | h
        · rw [h] at hk
          cases hk
        · obtain ⟨c0, e0, _⟩ := h.2.2.2.2.1 k hk
          exact (List.getElem?_eq_some_iff.mp e0).1
      dsimp only [gName]
      have hs9 := hs8.kept k9 np2
      have hn9 := k9 _ _ nnp hn8
      have ones := one_of fin1 l5 late5
      refine ⟨_, rfl, _, rfl, _, rfl, p, l, nl, as, cs, xs, rfl, hp9, hs9, np2, hn9, xl, by omega, ones, fun pl nm nds ys H10 hpl al als pys okn npl k10 hp10 => ?_⟩
      have nwlp : wl ≠ p := hp8.ne nwl
      have hwl10 : WiresAt K H10 wl ws := by
        obtain ⟨ps, h1, h2⟩ := hwl
        exact ⟨ps, k10 _ _ nwlp h1, h2.imp fun v x ⟨q, e, h⟩ => ⟨q, e, KT.kept k10 hp9 _ _ h⟩⟩
      have wok : WvOk nm ws := wv_ok fin5 xnd (fun x hx => (xok x hx).1) xl (by omega) (by rw [fdSum_eq fdl]; exact sum) dok pw al okn als pys
      have nodes : Nodes (sorts cl dd c) nm H10 := fun x hx => by
        obtain ⟨i, ei⟩ := List.getElem?_of_mem hx
        obtain ⟨m, em, e1, e2, h⟩ := al.get ei
        rw [e2]
        exact h.inn (okn m (List.mem_of_getElem? em)).1
      refine ⟨_, rfl, fun x dx nx ndx ne => ⟨H10, x, dx, pl, wl, nm, ws, rfl, Same.new (Same.new (Same.refl H10) ndx) (by rw [upd_ne ne.symm]; exact nx), nx, upd_same, hpl, hwl10, wok, nodes, fun H11 s11 wvn => ⟨rfl, ?_⟩⟩⟩
      dsimp only [gName]
      have hs11 := (hs9.kept k10 np2).keep s11
      have hn11 := s11 _ _ (k10 _ _ nnp hn9)
      have tG : Same G H11 := fun b o e => by
        have e1 := s1 b o e
        have nb : b ∉ p :: l :: flat as := fun mb => by
          rcases List.mem_cons.mp mb with rfl | mb
          · rw [fp] at e
            cases e
          · rw [new2 b mb] at e1
            cases e1
        have nbp : b ≠ p := fun z => nb (z ▸ List.mem_cons_self)
        have e5 : H5 b = some o := kd5 b o nb (kd4 b o nb (k3 b o nbp (k2 b o nbp e1)))
        exact s11 b o (k10 b o nbp (k9 b o nbp (k8 b o nbp (k7 b o nbp (s6 b o e5)))))
      refine ⟨_, rfl, _, rfl, l, rfl, ⟨_, SqL.of hs11.1⟩, fun D hD => ?_⟩
      refine lc_list (xs := as.map fun a => V.ref a.d) (fun j H' => H' D = some (.lst ((cs.map fun c => natV (ltOf c * c.gv)).take j)) ∧ Same H11 H') ⟨by rw [List.take_zero]; exact upd_same, Same.past (Same.refl _) hD⟩ (fun j H' _ e => SqL.of (e.2 _ _ hs11.1)) (fun j v H' ev e => ?_) (fun H12 e => ?_)
      · obtain ⟨hd', sm⟩ := e
        rw [List.getElem?_map] at ev
        obtain ⟨a2, ea2, rfl⟩ := Option.map_eq_some_iff.mp ev
        obtain ⟨c2, ec2, hc2⟩ := hs11.2.1.get ea2
        have h2 := hc2.keep sm
        obtain ⟨_, _, g8, _, _, lt, bg, elb, l99, _⟩ := ones c2 (List.mem_of_getElem? ec2)
        have elt : ltOf c2 = lt := by
          unfold ltOf
          rw [elb]
          rfl
        refine ⟨rfl, yes_ite ?_⟩
        refine ⟨_, rfl, a2.d, _, rfl, dg_late h2 elb, _, rfl, a2.d, _, rfl, dg_gives h2, _, _, rfl, rfl, .inl ⟨by omega, by omega⟩, _, hd', ?_, ?_, Same.past sm hD⟩
        · rw [List.length_take, List.length_map]
          exact Nat.lt_of_lt_of_le (show min j cs.length < 100 by omega) (by decide)
        · have ez : (cs.map fun c => natV (ltOf c * c.gv))[j]? = some (natV (lt * c2.gv)) := by rw [List.getElem?_map, ec2, ← elt]; rfl
          have en : V.int ((lt : Int) * (c2.gv : Int)) = natV (lt * c2.gv) := by
            unfold natV
            rw [Int.natCast_mul]
          rw [List.take_add_one, ez, ← en]
          exact upd_same
      obtain ⟨hdD, s12⟩ := e
      rw [List.length_map, hs11.2.1.len, List.take_of_length_le (by rw [List.length_map]; exact Nat.le_refl _)] at hdD
      have ekV : xs.map V.str = (xs.map fun x => (Sum.inr x : Key)).map kV := by
        rw [List.map_map]
        rfl
      have hn12 := s12 _ _ hn11
      rw [ekV] at hn12
      refine ⟨nl, D, xs.map fun x => (Sum.inr x : Key), _, rfl, SqL.of hn12, SqL.of hdD, by rw [List.length_map, List.length_map]; exact xl.symm, fun lo hlo => ?_⟩
      dsimp only [gName]
      have s13 := Same.new (o := .dK (mergeK [] ((xs.map fun x => (Sum.inr x : Key)).zip (cs.map fun c => natV (ltOf c * c.gv))))) s12 hlo
      have g13 : upd H12 lo (.dK (mergeK [] ((xs.map fun x => (Sum.inr x : Key)).zip (cs.map fun c => natV (ltOf c * c.gv))))) lo = some (.dK (mergeK [] ((xs.map fun x => (Sum.inr x : Key)).zip (cs.map fun c => natV (ltOf c * c.gv))))) := upd_same
      generalize upd H12 lo (.dK (mergeK [] ((xs.map fun x => (Sum.inr x : Key)).zip (cs.map fun c => natV (ltOf c * c.gv))))) = H13 at s13 g13
      have hp11 := hp10.keep s11
      have wvF : ∀ F, Kept p H11 F → WvAt K (sorts cl dd c) CW F x nm ws := fun F kF => by
        refine WvAtN.to wvn nx (fun b o n e => kF b o (fun z => ?_) e) (KT.kept kF hp11) fun y hy => ?_
        · obtain ⟨_, _, _, _, _, hx⟩ := hp10
          rw [z, hx] at n
          cases n
        · obtain ⟨i, ei⟩ := List.getElem?_of_mem hy
          obtain ⟨m, em, e1, e2, h⟩ := al.get ei
          rw [e2]
          exact ((h.keep s11).keptP kF hp11).inn (okn m (List.mem_of_getElem? em)).1
      have alF : ∀ F, Kept p H11 F → Al (NmN K cl dd F) nm nds := fun F kF => al.imp fun y m ⟨e1, e2, h⟩ => ⟨e1, e2, (h.keep s11).keptP kF hp11⟩
      have hwF : ∀ F, Kept p H11 F → WiresAt K F wl ws := fun F kF => by
        obtain ⟨ps, h1, h2⟩ := hwl10
        exact ⟨ps, kF _ _ nwlp (s11 _ _ h1), h2.imp fun v x ⟨q, e, h⟩ => ⟨q, e, KT.kept kF hp11 _ _ (Same.tup s11 h)⟩⟩
      have dl13 := dlate g13 xnd xl (by omega) als pys
      have late : ∀ F, F lo = H13 lo → ∀ vs : List Wr, (∀ w ∈ vs, ∃ u ∈ ws, u.src = w.src) → LateD F lo nds vs := fun F eF vs hv => by
        obtain ⟨kvs, h1, _, h3⟩ := dl13
        refine ⟨kvs, eF.trans h1, fun w hw => ?_⟩
        obtain ⟨u, hu, eu⟩ := hv w hw
        obtain ⟨y, hy, ey, _⟩ := wok.src u hu
        obtain ⟨i, ei⟩ := List.getElem?_of_mem hy
        obtain ⟨m, em, e1, _⟩ := al.get ei
        have := h3 m (List.mem_of_getElem? em)
        rw [← e1, ey, eu] at this
        exact this
      have k13 := Kept.same (p := p) s13
      have hp13 := hp11.keep s13
      refine ⟨_, rfl, _, rfl, _, rfl, x, wl, lo, nm, ws, nds, rfl, wvF _ k13, wok, alF _ k13, okn, hwF _ k13, late _ rfl _ (fun w hw => ⟨w, hw, rfl⟩), fun H14 s14 => ?_⟩
      refine ⟨_, rfl, iteF ?_⟩
      have s1314 := s14
      have k14 : Kept p H11 H14 := k13.trans (Kept.same s14)
      obtain ⟨psw, hpsw, alw⟩ := hwF _ k14
      have hp14 := (hp13.keep s14)
      refine ⟨_, rfl, wl, rfl, ⟨_, SqL.of hpsw⟩, fun D9 hD9 => ?_⟩
      refine lc_list (xs := psw) (fun j H' => ∃ (ps : List V) (ds9 : List Nat), H' D9 = some (.lst ps) ∧ Al (WireAt K H') ps (delW (ws.take j) ds9) ∧ ds9.length = j ∧ (∀ d ∈ ds9, d ≤ 8) ∧ Kept p H14 H' ∧ PotAt H' p) ⟨[], [], upd_same, by rw [List.take_zero]; exact trivial, rfl, (fun _ h => by cases h), Kept.same (Same.past (Same.refl _) hD9), hp14.keep (Same.past (Same.refl _) hD9)⟩ (fun j H' _ e => by
        obtain ⟨_, _, _, _, _, _, k9, _⟩ := e
        exact SqL.of (k9 _ _ nwlp hpsw)) (fun j v H' ev e => ?_) (fun H15 e => ?_)
      · obtain ⟨ps, ds9, hd9, al9, dl9, ok9, k9, hp9⟩ := e
        obtain ⟨w, ew, q, rfl, hq⟩ := alw.get ev
        have hq9 := KT.kept k9 hp14 _ _ hq
        refine ⟨rfl, yes_ite ?_⟩
        refine ⟨_, rfl, q, _, _, _, rfl, rfl, hq9, atI_nat (j := 0) rfl, _, rfl, q, _, _, _, rfl, rfl, hq9, atI_nat (j := 1) rfl, _, rfl, q, _, _, _, rfl, rfl, hq9, atI_nat (j := 2) rfl, ?_⟩
        refine ⟨_, rfl, p, _, rfl, hp9, by decide, by decide, fun e10 H10' d0 d1 k10' hp10' => ?_⟩
        obtain ⟨n10, rfl, n10l⟩ := nat_of d0 d1
        refine ⟨(by show 4 ≤ sizeLine; decide), fun t ht => ?_⟩
        have nD9 : D9 ≠ p := hp14.ne hD9
        have hd10 := k10' _ _ nD9 hd9
        have sT := Same.new (o := .tup [V.str w.src, V.str w.goal, V.int (w.place : Int), V.int (n10 : Int)]) (Same.refl H10') ht
        have gT : SqT K (upd H10' t (.tup [V.str w.src, V.str w.goal, V.int (w.place : Int), V.int (n10 : Int)])) t [V.str w.src, V.str w.goal, V.int (w.place : Int), V.int (n10 : Int)] := SqT.of upd_same
        have hdT := sT _ _ hd10
        refine ⟨ps, hdT, ?_, ?_⟩
        · have l1 := al9.len
          have l2 := (List.getElem?_eq_some_iff.mp ew).1
          have l3 := delW_len (ws := ws.take j) (ds := ds9) (by rw [List.length_take, dl9]; omega)
          have := wok.few
          rw [List.length_take] at l3
          exact Nat.lt_of_lt_of_le (show ps.length < 100 by omega) (by decide)
        have k10T := (k9.trans k10').trans (Kept.same sT)
        refine ⟨ps ++ [.ref t], ds9 ++ [n10], upd_same, ?_, by rw [List.length_append, dl9]; rfl, ?_, ?_, ?_⟩
        · have jl := (List.getElem?_eq_some_iff.mp ew).1
          have e1 : delW (ws.take (j + 1)) (ds9 ++ [n10]) = delW (ws.take j) ds9 ++ [⟨w.src, w.goal, w.place, n10⟩] := by
            unfold delW
            rw [List.take_succ, ew]
            exact List.zipWith_append (by rw [List.length_take, dl9]; omega)
          rw [e1]
          have kt : KT K _ (upd (upd H10' t (.tup [V.str w.src, V.str w.goal, V.int (w.place : Int), V.int (n10 : Int)])) D9 (.lst (ps ++ [V.ref t]))) := KT.lst hdT
          exact Al.snoc ⟨t, rfl, kt _ _ gT⟩ (al9.imp fun v x ⟨q, e, h⟩ => ⟨q, e, kt _ _ (Same.tup sT (KT.kept k10' hp9 _ _ h))⟩)
        · intro d hd
          rcases List.mem_append.mp hd with h | h
          · exact ok9 d h
          · rw [List.mem_singleton.mp h]
            omega
        · exact k10T.past hD9
        · exact (hp10'.keep sT).upd nD9
      obtain ⟨ps, ds9, hd9, al9, dl9, ok9, k9, hp9⟩ := e
      rw [alw.len, List.take_length] at al9
      rw [alw.len] at dl9
      dsimp only [gName]
      have k15 := k14.trans k9
      have wv15 := wvF _ k15
      obtain ⟨dx15, _, _, _, _, hx15, _⟩ := id wv15
      refine ⟨_, rfl, x, dx15, _, rfl, hx15, rfl, _, rfl, D9, rfl, ⟨_, SqL.of hd9⟩, fun D8 hD8 => ?_⟩
      refine lc_list (xs := ps) (fun j H' => H' D8 = some (.lst ((ds9.take j).map natV)) ∧ Same H15 H') ⟨by rw [List.take_zero]; exact upd_same, Same.past (Same.refl _) hD8⟩ (fun j H' _ e => SqL.of (e.2 _ _ hd9)) (fun j v H' ev e => ?_) (fun H16 e => ?_)
      · obtain ⟨hd8, sm⟩ := e
        obtain ⟨w, ew, q, rfl, hq⟩ := al9.get ev
        obtain ⟨u, n9, eu, en9, rfl⟩ := delW_inv dl9 ew
        refine ⟨rfl, yes_ite ?_⟩
        refine ⟨_, rfl, q, _, _, _, rfl, rfl, Same.tup sm hq, atI_nat (j := 3) rfl, _, hd8, ?_, ?_, Same.past sm hD8⟩
        · have := wok.few
          rw [List.length_map, List.length_take]
          exact Nat.lt_of_lt_of_le (show min j ds9.length < 100 by omega) (by decide)
        · rw [List.take_succ, en9, List.map_append]
          exact upd_same
      obtain ⟨hd8, s16⟩ := e
      have psl : ps.length = ds9.length := by rw [al9.len, delW_len dl9, dl9]
      rw [psl, List.take_length] at hd8
      refine ⟨x, D8, nm, ws, ds9, rfl, wv15.keep s16, wok, hd8, dl9, (fun d hd => Nat.le_trans (ok9 d hd) (by decide)), fun q2 H17 s17 nq2 wv2 => ?_⟩
      have k17 := (k15.trans (Kept.same s16)).trans (Kept.same s17)
      have hd17 : WiresAt K H17 D9 (delW ws ds9) := ⟨ps, s17 _ _ (s16 _ _ hd9), al9.imp fun v x ⟨q, e, h⟩ => ⟨q, e, Same.tup (s16.trans s17) h⟩⟩
      have nodes17 : Nodes (sorts cl dd c) nm H17 := fun y hy => by
        obtain ⟨i, ei⟩ := List.getElem?_of_mem hy
        obtain ⟨m, em, e1, e2, h⟩ := (alF _ k17).get ei
        rw [e2]
        exact h.inn (okn m (List.mem_of_getElem? em)).1
      have hlo17 : H17 lo = H13 lo := by
        rw [g13]
        exact s17 _ _ (s16 _ _ (k9 _ _ (hp11.ne (s12.free hlo)) (s14 _ _ g13)))
      have wok2 : WvOk nm (delW ws ds9) := wok.delayed dl9 (fun d hd => Nat.le_trans (ok9 d hd) (by decide))
      refine ⟨_, rfl, _, rfl, q2, D9, lo, nm, delW ws ds9, nds, rfl, wv2 H17 Kept.refl nodes17, wok2, alF _ k17, okn, hd17, late H17 hlo17 (delW ws ds9) (fun u hu => ?_), fun H18 s18 => ?_⟩
      · obtain ⟨i, ei⟩ := List.getElem?_of_mem hu
        obtain ⟨c3, d3, e3, _, rfl⟩ := delW_inv dl9 ei
        exact ⟨c3, List.mem_of_getElem? e3, rfl⟩
      refine ⟨_, rfl, iteF ?_⟩
      have k18 := k17.trans (Kept.same s18)
      have hp18 := ((hp9.keep s16).keep s17).keep s18
      have hlo18 : H18 lo = H13 lo := by
        rw [g13]
        exact s18 _ _ (hlo17.trans g13)
      have nlop : lo ≠ p := hp11.ne (s12.free hlo)
      refine ⟨_, rfl, _, rfl, _, rfl, _, rfl, _, rfl, p, x, l, nl, lo, nm, ws, nds, as, cs, xs, ys, rfl, hp18, (fun F kF => wvF F (k18.trans kF)), wok, alF _ k18, okn, als, pys, (hs11.kept k18 np2), np2, k18 _ _ nnp hn11, xl, by omega, xnd, ones, ?_, nlop, fun H19 k19 hp19 => ?_⟩
      · obtain ⟨kvs, h1, h2, h3⟩ := dl13
        exact ⟨kvs, hlo18.trans h1, h2, h3⟩
      refine ⟨_, rfl, iteF ?_⟩
      have k20 := k18.trans k19
      have hlo19 : H19 lo = H13 lo := by
        rw [g13]
        exact k19 _ _ nlop (hlo18.trans g13)
      refine ⟨_, rfl, _, rfl, _, rfl, x, wl, lo, nm, ws, nds, rfl, wvF _ k20, wok, alF _ k20, okn, hwF _ k20, late H19 hlo19 ws (fun w hw => ⟨w, hw, rfl⟩), fun H20 s20 => ?_⟩
      refine ⟨_, rfl, iteF ?_⟩
      exact ⟨_, _, _, _, _, _, _, _, rfl, sG.trans ((Same.kept tG fp k20).trans s20)⟩
    · rintro σ G ⟨w1, w2, w3, w4, w5, w6, w7, w8, rfl, sG⟩
      refine ⟨(by show 2 ≤ sizeLine; decide), fun q hq => ?_⟩
      have s1 := Same.new (o := .lst [V.bl false, V.bl true]) (Same.refl G) hq
      have g1 : upd G q (.lst [V.bl false, V.bl true]) q = some (.lst [V.bl false, V.bl true]) := upd_same
      generalize upd G q (.lst [V.bl false, V.bl true]) = G1 at s1 g1
      refine ⟨q, rfl, ⟨_, SqL.of g1⟩, fun D hD => ?_⟩
      refine lc_list (xs := [V.bl false, V.bl true]) (fun j H' => H' D = some (.lst ((List.replicate j true).map V.bl)) ∧ Same G1 H') ⟨upd_same, Same.past (Same.refl _) hD⟩ (fun j H' _ e => SqL.of (e.2 _ _ g1)) (fun j v H' ev e => ?_) (fun H2 e => ?_)
      · obtain ⟨hd, sm⟩ := e
        obtain ⟨b, rfl⟩ : ∃ b, v = V.bl b := by
          have hm := List.mem_of_getElem? ev
          simp only [List.mem_cons, List.not_mem_nil, or_false] at hm
          rcases hm with rfl | rfl
          · exact ⟨_, rfl⟩
          · exact ⟨_, rfl⟩
        have jl := (List.getElem?_eq_some_iff.mp ev).1
        refine ⟨rfl, yes_ite ?_⟩
        refine ⟨(by show 0 ≤ sizeLine; decide), fun l1 h1 => ⟨(by show 0 ≤ sizeLine; decide), fun l2 h2 => ?_⟩⟩
        have t1 := Same.new (o := .lst []) (Same.refl H') h1
        have hl1 : (upd H' l1 (.lst [])) l1 = some (.lst []) := upd_same
        generalize upd H' l1 (.lst []) = H1 at t1 hl1 h2
        have t2 := Same.new (o := .lst []) (Same.refl H1) h2
        have hl2 : (upd H1 l2 (.lst [])) l2 = some (.lst []) := upd_same
        generalize upd H1 l2 (.lst []) = H3 at t2 hl2
        refine fun x dx nx ndx ne => ⟨H3, x, dx, l1, l2, [], [], rfl, Same.new (Same.new (Same.refl H3) ndx) (by rw [upd_ne ne.symm]; exact nx), nx, upd_same, ⟨[], t2 _ _ hl1, trivial⟩, ⟨[], hl2, trivial⟩, wok0, (fun _ h => (List.not_mem_nil h).elim), fun H4 t4 wv => ⟨rfl, ?_⟩⟩
        refine ⟨_, rfl, rfl, rfl, x, b, [], [], [], rfl, wv.at, wok0, trivial, (fun _ h => (List.not_mem_nil h).elim), fun lq H5 t5 nq hq5 => ?_⟩
        refine ⟨(by show 0 ≤ sizeLine; decide), fun l0 h0 => ?_⟩
        have t6 := Same.new (o := .lst []) (Same.refl H5) h0
        have g6 : upd H5 l0 (.lst []) l0 = some (.lst []) := upd_same
        generalize upd H5 l0 (.lst []) = H6 at t6 g6
        have tt := (((t1.trans t2).trans t4).trans t5).trans t6
        refine ⟨.list [], .list [], .lst (SqL.of (t6 _ _ hq5)) .nil, .lst (SqL.of g6) .nil, rfl, rfl, _, tt _ _ hd, ?_, ?_, Same.past (sm.trans tt) hD⟩
        · rw [List.length_map, List.length_replicate]
          exact Nat.lt_of_lt_of_le (show j < 100 by have : j < 2 := jl; omega) (by decide)
        · rw [List.replicate_succ', List.map_append]
          exact upd_same
      obtain ⟨hd, sm⟩ := e
      exact ⟨D, List.replicate 2 true, rfl, SqL.of hd, kk _⟩
end
end Sw
namespace Sw
open PySem PySem.Spec PyProof.Rows L2
def clK (K : PySem.W.Frag) : Srt → Addr
  | .inlet => He.ga K "Inlet"
  | .outlet => He.ga K "Outlet"
  | .gain => He.ga K "Gain"
  | .mix => He.ga K "Mix"
  | .times => He.ga K "Times"
  | .clip => He.ga K "Clip"
  | .share => He.ga K "Share"
  | .choose => He.ga K "Choose"
  | .own => He.ga K "Own"
  | .taps => He.ga K "Taps"
  | .latch => He.ga K "Latch"
  | .count => He.ga K "Count"
  | .tape => He.ga K "Tape"
  | .up => He.ga K "Up"
  | .down => He.ga K "Down"
  | .resample => He.ga K "Resample"
theorem facts {P : Program} {w : World} {K : PySem.W.Frag} {h : Heap} {mg : Str → Option Value} {f : Addr} (X : K.In h) (G : h.Ns mainGlobals mg) (hfa : mg ("law" : Str) = some (.ref f)) (cx : ex K = true) (c : He.SaysD fa fn K) :
    ∃ fd : FuncData, (∀ (s : Shared) (v : Value), BindsTo s fd ⟨[v], []⟩ [("_law_script", v)]) ∧ ∀ base : Heap, K.In base → base.Ns mainGlobals mg → FnG P w K mg base CX0 9 f fd ["_law_script"] (spLaw K) := by
  unfold ex at cx
  obtain ⟨d_is_whole, F_is_whole⟩ := c.def_ 0 (d := dfn "is_whole" sWhole) rfl
  have g_is_whole := He.glo_ok X G (c.fact 0 (f := .glo "is_whole") rfl)
  have b_is_whole : Binds K d_is_whole ["thing"] [] := FunD.bindsN F_is_whole fun _ _ _ _ _ _ us hl => match us, hl with | [_], _ => rfl
  obtain ⟨d_is_whole_within, F_is_whole_within⟩ := c.def_ 1 (d := dfn "is_whole_within" sWithin) rfl
  have g_is_whole_within := He.glo_ok X G (c.fact 1 (f := .glo "is_whole_within") rfl)
  have b_is_whole_within : Binds K d_is_whole_within ["thing", "least", "most"] [] := FunD.bindsN F_is_whole_within fun _ _ _ _ _ _ us hl => match us, hl with | [_, _, _], _ => rfl
  obtain ⟨d_is_truth, F_is_truth⟩ := c.def_ 2 (d := dfn "is_truth" sTruth) rfl
  have g_is_truth := He.glo_ok X G (c.fact 2 (f := .glo "is_truth") rfl)
  have b_is_truth : Binds K d_is_truth ["thing"] [] := FunD.bindsN F_is_truth fun _ _ _ _ _ _ us hl => match us, hl with | [_], _ => rfl
  obtain ⟨d_are_wholes, F_are_wholes⟩ := c.def_ 3 (d := dfn "are_wholes" sWholes) rfl
  have g_are_wholes := He.glo_ok X G (c.fact 3 (f := .glo "are_wholes") rfl)
  have b_are_wholes : Binds K d_are_wholes ["things"] [] := FunD.bindsN F_are_wholes fun _ _ _ _ _ _ us hl => match us, hl with | [_], _ => rfl
  obtain ⟨d_are_wholes_within, F_are_wholes_within⟩ := c.def_ 4 (d := dfn "are_wholes_within" sAreWholesWithin) rfl
  have g_are_wholes_within := He.glo_ok X G (c.fact 4 (f := .glo "are_wholes_within") rfl)
  have b_are_wholes_within : Binds K d_are_wholes_within ["things", "least", "most"] [] := FunD.bindsN F_are_wholes_within fun _ _ _ _ _ _ us hl => match us, hl with | [_, _, _], _ => rfl
  obtain ⟨d_is_list_of_wholes, F_is_list_of_wholes⟩ := c.def_ 5 (d := dfn "is_list_of_wholes" sListOf) rfl
  have g_is_list_of_wholes := He.glo_ok X G (c.fact 5 (f := .glo "is_list_of_wholes") rfl)
  have b_is_list_of_wholes : Binds K d_is_list_of_wholes ["thing", "least", "most"] [] := FunD.bindsN F_is_list_of_wholes fun _ _ _ _ _ _ us hl => match us, hl with | [_, _, _], _ => rfl
  obtain ⟨d_need, F_need⟩ := c.def_ 6 (d := dfn "need" sNeed) rfl
  have g_need := He.glo_ok X G (c.fact 6 (f := .glo "need") rfl)
  have b_need : Binds K d_need ["holds", "field"] [] := FunD.bindsN F_need fun _ _ _ _ _ _ us hl => match us, hl with | [_, _], _ => rfl
  obtain ⟨d_is_name, F_is_name⟩ := c.def_ 7 (d := dfn "is_name" sIsName) rfl
  have g_is_name := He.glo_ok X G (c.fact 7 (f := .glo "is_name") rfl)
  have b_is_name : Binds K d_is_name ["thing"] [] := FunD.bindsN F_is_name fun _ _ _ _ _ _ us hl => match us, hl with | [_], _ => rfl
  obtain ⟨d_is_one_of, F_is_one_of⟩ := c.def_ 8 (d := dfn "is_one_of" sIsOneOf) rfl
  have g_is_one_of := He.glo_ok X G (c.fact 8 (f := .glo "is_one_of") rfl)
  have b_is_one_of : Binds K d_is_one_of ["thing", "names"] [] := FunD.bindsN F_is_one_of fun _ _ _ _ _ _ us hl => match us, hl with | [_, _], _ => rfl
  obtain ⟨d_all_reached, F_all_reached⟩ := c.def_ 9 (d := dfn "all_reached" sAllReached) rfl
  have g_all_reached := He.glo_ok X G (c.fact 9 (f := .glo "all_reached") rfl)
  have b_all_reached : Binds K d_all_reached ["starts", "onward"] [] := FunD.bindsN F_all_reached fun _ _ _ _ _ _ us hl => match us, hl with | [_, _], _ => rfl
  obtain ⟨d_nodes_by_name, F_nodes_by_name⟩ := c.def_ 10 (d := dfn "nodes_by_name" sNodesByName) rfl
  have g_nodes_by_name := He.glo_ok X G (c.fact 10 (f := .glo "nodes_by_name") rfl)
  have b_nodes_by_name : Binds K d_nodes_by_name ["nodes"] [] := FunD.bindsN F_nodes_by_name fun _ _ _ _ _ _ us hl => match us, hl with | [_], _ => rfl
  obtain ⟨d_check_wire, F_check_wire⟩ := c.def_ 11 (d := dfn "check_wire" sCheckWire) rfl
  have g_check_wire := He.glo_ok X G (c.fact 11 (f := .glo "check_wire") rfl)
  have b_check_wire : Binds K d_check_wire ["number", "wire", "named"] [] := FunD.bindsN F_check_wire fun _ _ _ _ _ _ us hl => match us, hl with | [_, _, _], _ => rfl
  obtain ⟨d_wires_by_goal, F_wires_by_goal⟩ := c.def_ 12 (d := dfn "wires_by_goal" sWiresByGoal) rfl
  have g_wires_by_goal := He.glo_ok X G (c.fact 12 (f := .glo "wires_by_goal") rfl)
  have b_wires_by_goal : Binds K d_wires_by_goal ["wires", "named"] [] := FunD.bindsN F_wires_by_goal fun _ _ _ _ _ _ us hl => match us, hl with | [_, _], _ => rfl
  obtain ⟨d_refuse_bare, F_refuse_bare⟩ := c.def_ 13 (d := dfn "refuse_bare" sRefuseBare) rfl
  have g_refuse_bare := He.glo_ok X G (c.fact 13 (f := .glo "refuse_bare") rfl)
  have b_refuse_bare : Binds K d_refuse_bare ["leading"] [] := FunD.bindsN F_refuse_bare fun _ _ _ _ _ _ us hl => match us, hl with | [_], _ => rfl
  obtain ⟨d_wires_by_source, F_wires_by_source⟩ := c.def_ 14 (d := dfn "wires_by_source" sWiresBySource) rfl
  have g_wires_by_source := He.glo_ok X G (c.fact 14 (f := .glo "wires_by_source") rfl)
  have b_wires_by_source : Binds K d_wires_by_source ["wires", "named"] [] := FunD.bindsN F_wires_by_source fun _ _ _ _ _ _ us hl => match us, hl with | [_, _], _ => rfl
  obtain ⟨d_refuse_unfed, F_refuse_unfed⟩ := c.def_ 15 (d := dfn "refuse_unfed" sRefuseUnfed) rfl
  have g_refuse_unfed := He.glo_ok X G (c.fact 15 (f := .glo "refuse_unfed") rfl)
  have b_refuse_unfed : Binds K d_refuse_unfed ["named", "wires", "leaving"] [] := FunD.bindsN F_refuse_unfed fun _ _ _ _ _ _ us hl => match us, hl with | [_, _, _], _ => rfl
  obtain ⟨d_first_queues, F_first_queues⟩ := c.def_ 16 (d := (⟨("first_queues", none), "first_queues", "first_queues", defArgs sFirstQueues, defBody sFirstQueues, defScope sFirstQueues, [], [("lates", .bl false)]⟩ : He.DefD)) rfl
  have g_first_queues := He.glo_ok X G (c.fact 16 (f := .glo "first_queues") rfl)
  obtain ⟨d__law_pot, F__law_pot⟩ := c.def_ 17 (d := dfn "_law_pot" sPot) rfl
  have g__law_pot := He.glo_ok X G (c.fact 17 (f := .glo "_law_pot") rfl)
  have b__law_pot : Binds K d__law_pot ["_law_script", "_law_k"] [] := FunD.bindsN F__law_pot fun _ _ _ _ _ _ us hl => match us, hl with | [_, _], _ => rfl
  obtain ⟨d__law_digit, F__law_digit⟩ := c.def_ 18 (d := dfn "_law_digit" sLDigit) rfl
  have g__law_digit := He.glo_ok X G (c.fact 18 (f := .glo "_law_digit") rfl)
  have b__law_digit : Binds K d__law_digit ["_law_pot_here", "_law_many"] [] := FunD.bindsN F__law_digit fun _ _ _ _ _ _ us hl => match us, hl with | [_, _], _ => rfl
  obtain ⟨d__law_names, F__law_names⟩ := c.def_ 19 (d := dfn "_law_names" sLNames) rfl
  have g__law_names := He.glo_ok X G (c.fact 19 (f := .glo "_law_names") rfl)
  have b__law_names : Binds K d__law_names ["_law_pot_here", "_law_many", "_law_taken"] [] := FunD.bindsN F__law_names fun _ _ _ _ _ _ us hl => match us, hl with | [_, _, _], _ => rfl
  obtain ⟨d__law_mixed, F__law_mixed⟩ := c.def_ 20 (d := dfn "_law_mixed" sLMixed) rfl
  have g__law_mixed := He.glo_ok X G (c.fact 20 (f := .glo "_law_mixed") rfl)
  have b__law_mixed : Binds K d__law_mixed ["_law_pot_here", "_law_some"] [] := FunD.bindsN F__law_mixed fun _ _ _ _ _ _ us hl => match us, hl with | [_, _], _ => rfl
  obtain ⟨d__law_inlet, F__law_inlet⟩ := c.def_ 21 (d := dfn "_law_inlet" sLInlet) rfl
  have g__law_inlet := He.glo_ok X G (c.fact 21 (f := .glo "_law_inlet") rfl)
  have b__law_inlet : Binds K d__law_inlet ["_law_pot_here"] [] := FunD.bindsN F__law_inlet fun _ _ _ _ _ _ us hl => match us, hl with | [_], _ => rfl
  obtain ⟨d__law_shape, F__law_shape⟩ := c.def_ 22 (d := dfn "_law_shape" sLShape) rfl
  have g__law_shape := He.glo_ok X G (c.fact 22 (f := .glo "_law_shape") rfl)
  have b__law_shape : Binds K d__law_shape ["_law_pot_here", "_law_shapes_here"] [] := FunD.bindsN F__law_shape fun _ _ _ _ _ _ us hl => match us, hl with | [_, _], _ => rfl
  obtain ⟨d__law_may_feed, F__law_may_feed⟩ := c.def_ 23 (d := dfn "_law_may_feed" sLMayFeed) rfl
  have g__law_may_feed := He.glo_ok X G (c.fact 23 (f := .glo "_law_may_feed") rfl)
  have b__law_may_feed : Binds K d__law_may_feed ["_law_source", "_law_goal"] [] := FunD.bindsN F__law_may_feed fun _ _ _ _ _ _ us hl => match us, hl with | [_, _], _ => rfl
  obtain ⟨d__law_feed, F__law_feed⟩ := c.def_ 24 (d := dfn "_law_feed" sLFeed) rfl
  have g__law_feed := He.glo_ok X G (c.fact 24 (f := .glo "_law_feed") rfl)
  have b__law_feed : Binds K d__law_feed ["_law_pot_here", "_law_shapes_here", "_law_one"] [] := FunD.bindsN F__law_feed fun _ _ _ _ _ _ us hl => match us, hl with | [_, _, _], _ => rfl
  obtain ⟨d__law_shapes, F__law_shapes⟩ := c.def_ 25 (d := dfn "_law_shapes" sLShapes) rfl
  have g__law_shapes := He.glo_ok X G (c.fact 25 (f := .glo "_law_shapes") rfl)
  have b__law_shapes : Binds K d__law_shapes ["_law_pot_here"] [] := FunD.bindsN F__law_shapes fun _ _ _ _ _ _ us hl => match us, hl with | [_], _ => rfl
  obtain ⟨d__law_sorts, F__law_sorts⟩ := c.def_ 26 (d := dfn "_law_sorts" sLSorts) rfl
  have g__law_sorts := He.glo_ok X G (c.fact 26 (f := .glo "_law_sorts") rfl)
  have b__law_sorts : Binds K d__law_sorts ["_law_takes", "_law_gives"] [] := FunD.bindsN F__law_sorts fun _ _ _ _ _ _ us hl => match us, hl with | [_, _], _ => rfl
  obtain ⟨d__law_kept, F__law_kept⟩ := c.def_ 27 (d := dfn "_law_kept" sLKept) rfl
  have g__law_kept := He.glo_ok X G (c.fact 27 (f := .glo "_law_kept") rfl)
  have b__law_kept : Binds K d__law_kept ["_law_pot_here", "_law_sort", "_law_after", "_law_mute"] [] := FunD.bindsN F__law_kept fun _ _ _ _ _ _ us hl => match us, hl with | [_, _, _, _], _ => rfl
  obtain ⟨d__law_node, F__law_node⟩ := c.def_ 28 (d := dfn "_law_node" sLNode) rfl
  have g__law_node := He.glo_ok X G (c.fact 28 (f := .glo "_law_node") rfl)
  have b__law_node : Binds K d__law_node ["_law_pot_here", "_law_one"] [] := FunD.bindsN F__law_node fun _ _ _ _ _ _ us hl => match us, hl with | [_, _], _ => rfl
  obtain ⟨d__law_spoil, F__law_spoil⟩ := c.def_ 29 (d := dfn "_law_spoil" sLSpoil) rfl
  have g__law_spoil := He.glo_ok X G (c.fact 29 (f := .glo "_law_spoil") rfl)
  have b__law_spoil : Binds K d__law_spoil ["_law_pot_here", "_law_shapes_here"] [] := FunD.bindsN F__law_spoil fun _ _ _ _ _ _ us hl => match us, hl with | [_, _], _ => rfl
  obtain ⟨d__law_lates, F__law_lates⟩ := c.def_ 30 (d := dfn "_law_lates" sLLates) rfl
  have g__law_lates := He.glo_ok X G (c.fact 30 (f := .glo "_law_lates") rfl)
  have b__law_lates : Binds K d__law_lates ["_law_pot_here", "_law_shapes_here", "_law_budget"] [] := FunD.bindsN F__law_lates fun _ _ _ _ _ _ us hl => match us, hl with | [_, _, _], _ => rfl
  obtain ⟨d__law_wires, F__law_wires⟩ := c.def_ 31 (d := dfn "_law_wires" sLWires) rfl
  have g__law_wires := He.glo_ok X G (c.fact 31 (f := .glo "_law_wires") rfl)
  have b__law_wires : Binds K d__law_wires ["_law_pot_here", "_law_shapes_here", "_law_names_here", "_law_delays_here"] [] := FunD.bindsN F__law_wires fun _ _ _ _ _ _ us hl => match us, hl with | [_, _, _, _], _ => rfl
  obtain ⟨d__law_delays, F__law_delays⟩ := c.def_ 32 (d := dfn "_law_delays" sLDelays) rfl
  have g__law_delays := He.glo_ok X G (c.fact 32 (f := .glo "_law_delays") rfl)
  have b__law_delays : Binds K d__law_delays ["_law_pot_here", "_law_many", "_law_budget"] [] := FunD.bindsN F__law_delays fun _ _ _ _ _ _ us hl => match us, hl with | [_, _, _], _ => rfl
  obtain ⟨d__law_nodes, F__law_nodes⟩ := c.def_ 33 (d := dfn "_law_nodes" sLNodes) rfl
  have g__law_nodes := He.glo_ok X G (c.fact 33 (f := .glo "_law_nodes") rfl)
  have b__law_nodes : Binds K d__law_nodes ["_law_pot_here", "_law_shapes_here", "_law_names_here"] [] := FunD.bindsN F__law_nodes fun _ _ _ _ _ _ us hl => match us, hl with | [_, _, _], _ => rfl
  obtain ⟨d__law_due, F__law_due⟩ := c.def_ 34 (d := dfn "_law_due" sLDue) rfl
  have g__law_due := He.glo_ok X G (c.fact 34 (f := .glo "_law_due") rfl)
  have b__law_due : Binds K d__law_due ["_law_wires_here", "_law_late_of", "_law_run"] [] := FunD.bindsN F__law_due fun _ _ _ _ _ _ us hl => match us, hl with | [_, _, _], _ => rfl
  obtain ⟨d__law_told, F__law_told⟩ := c.def_ 35 (d := dfn "_law_told" sLTold) rfl
  have g__law_told := He.glo_ok X G (c.fact 35 (f := .glo "_law_told") rfl)
  have b__law_told : Binds K d__law_told ["_law_made", "_law_way"] [] := FunD.bindsN F__law_told fun _ _ _ _ _ _ us hl => match us, hl with | [_, _], _ => rfl
  obtain ⟨d__law_right, F__law_right⟩ := c.def_ 36 (d := dfn "_law_right" sLRight) rfl
  have g__law_right := He.glo_ok X G (c.fact 36 (f := .glo "_law_right") rfl)
  have b__law_right : Binds K d__law_right ["_law_made", "_law_wires_here", "_law_late_of"] [] := FunD.bindsN F__law_right fun _ _ _ _ _ _ us hl => match us, hl with | [_, _, _], _ => rfl
  obtain ⟨d__law_put_right, F__law_put_right⟩ := c.def_ 37 (d := dfn "_law_put_right" sLPutRight) rfl
  have g__law_put_right := He.glo_ok X G (c.fact 37 (f := .glo "_law_put_right") rfl)
  have b__law_put_right : Binds K d__law_put_right ["_law_pot_here", "_law_made", "_law_shapes_here", "_law_names_here", "_law_late_of"] [] := FunD.bindsN F__law_put_right fun _ _ _ _ _ _ us hl => match us, hl with | [_, _, _, _, _], _ => rfl
  obtain ⟨d_law, F_law⟩ := c.def_ 38 (d := dfn "law" sLaw) rfl
  have e := hfa.symm.trans (He.glo_ok X G (c.fact 38 (f := .glo "law") rfl))
  cases e
  have bL := FunD.bindsA (ps := ["_law_script"]) F_law fun _ _ _ _ _ _ us hl => match us, hl with | [_], _ => rfl
  obtain ⟨d_Node_DinitD, F_Node_DinitD⟩ := c.def_ 39 (d := (⟨("Node", some "__init__"), "__init__", "Node.__init__", defArgs sNodeInit, defBody sNodeInit, defScope sNodeInit, [], []⟩ : He.DefD)) rfl
  have b_Node_DinitD : Binds K d_Node_DinitD ["self", "arguments", "late", "begin"] [] := FunD.bindsN F_Node_DinitD fun _ _ _ _ _ _ us hl => match us, hl with | [_, _, _, _], _ => rfl
  obtain ⟨d_Inlet_DinitD, F_Inlet_DinitD⟩ := c.def_ 40 (d := (⟨("Inlet", some "__init__"), "__init__", "Inlet.__init__", defArgs sInletInit, defBody sInletInit, defScope sInletInit, [], []⟩ : He.DefD)) rfl
  have b_Inlet_DinitD : Binds K d_Inlet_DinitD ["self"] [] := FunD.bindsN F_Inlet_DinitD fun _ _ _ _ _ _ us hl => match us, hl with | [_], _ => rfl
  obtain ⟨d_Inlet_takes, F_Inlet_takes⟩ := c.def_ 41 (d := (⟨("Inlet", some "takes"), "takes", "Inlet.takes", defArgs sInletTakes, defBody sInletTakes, defScope sInletTakes, [], []⟩ : He.DefD)) rfl
  have b_Inlet_takes : Binds K d_Inlet_takes ["self"] [] := FunD.bindsN F_Inlet_takes fun _ _ _ _ _ _ us hl => match us, hl with | [_], _ => rfl
  obtain ⟨d_Inlet_gives, F_Inlet_gives⟩ := c.def_ 42 (d := (⟨("Inlet", some "gives"), "gives", "Inlet.gives", defArgs sInletGives, defBody sInletGives, defScope sInletGives, [], []⟩ : He.DefD)) rfl
  have b_Inlet_gives : Binds K d_Inlet_gives ["self"] [] := FunD.bindsN F_Inlet_gives fun _ _ _ _ _ _ us hl => match us, hl with | [_], _ => rfl
  obtain ⟨d_Inlet_late, F_Inlet_late⟩ := c.def_ 43 (d := (⟨("Inlet", some "late"), "late", "Inlet.late", defArgs sInletLate, defBody sInletLate, defScope sInletLate, [], []⟩ : He.DefD)) rfl
  have b_Inlet_late : Binds K d_Inlet_late ["self"] [] := FunD.bindsN F_Inlet_late fun _ _ _ _ _ _ us hl => match us, hl with | [_], _ => rfl
  obtain ⟨d_Outlet_DinitD, F_Outlet_DinitD⟩ := c.def_ 44 (d := (⟨("Outlet", some "__init__"), "__init__", "Outlet.__init__", defArgs sOutletInit, defBody sOutletInit, defScope sOutletInit, [], []⟩ : He.DefD)) rfl
  have b_Outlet_DinitD : Binds K d_Outlet_DinitD ["self"] [] := FunD.bindsN F_Outlet_DinitD fun _ _ _ _ _ _ us hl => match us, hl with | [_], _ => rfl
  obtain ⟨d_Outlet_takes, F_Outlet_takes⟩ := c.def_ 45 (d := (⟨("Outlet", some "takes"), "takes", "Outlet.takes", defArgs sOutletTakes, defBody sOutletTakes, defScope sOutletTakes, [], []⟩ : He.DefD)) rfl
  have b_Outlet_takes : Binds K d_Outlet_takes ["self"] [] := FunD.bindsN F_Outlet_takes fun _ _ _ _ _ _ us hl => match us, hl with | [_], _ => rfl
  obtain ⟨d_Outlet_gives, F_Outlet_gives⟩ := c.def_ 46 (d := (⟨("Outlet", some "gives"), "gives", "Outlet.gives", defArgs sOutletGives, defBody sOutletGives, defScope sOutletGives, [], []⟩ : He.DefD)) rfl
  have b_Outlet_gives : Binds K d_Outlet_gives ["self"] [] := FunD.bindsN F_Outlet_gives fun _ _ _ _ _ _ us hl => match us, hl with | [_], _ => rfl
  obtain ⟨d_Outlet_late, F_Outlet_late⟩ := c.def_ 47 (d := (⟨("Outlet", some "late"), "late", "Outlet.late", defArgs sOutletLate, defBody sOutletLate, defScope sOutletLate, [], []⟩ : He.DefD)) rfl
  have b_Outlet_late : Binds K d_Outlet_late ["self"] [] := FunD.bindsN F_Outlet_late fun _ _ _ _ _ _ us hl => match us, hl with | [_], _ => rfl
  obtain ⟨d_Gain_DinitD, F_Gain_DinitD⟩ := c.def_ 48 (d := (⟨("Gain", some "__init__"), "__init__", "Gain.__init__", defArgs sGainInit, defBody sGainInit, defScope sGainInit, [], [("late", .int 0), ("begin", .int 0)]⟩ : He.DefD)) rfl
  obtain ⟨d_Gain_takes, F_Gain_takes⟩ := c.def_ 49 (d := (⟨("Gain", some "takes"), "takes", "Gain.takes", defArgs sGainTakes, defBody sGainTakes, defScope sGainTakes, [], []⟩ : He.DefD)) rfl
  have b_Gain_takes : Binds K d_Gain_takes ["self"] [] := FunD.bindsN F_Gain_takes fun _ _ _ _ _ _ us hl => match us, hl with | [_], _ => rfl
  obtain ⟨d_Gain_gives, F_Gain_gives⟩ := c.def_ 50 (d := (⟨("Gain", some "gives"), "gives", "Gain.gives", defArgs sGainGives, defBody sGainGives, defScope sGainGives, [], []⟩ : He.DefD)) rfl
  have b_Gain_gives : Binds K d_Gain_gives ["self"] [] := FunD.bindsN F_Gain_gives fun _ _ _ _ _ _ us hl => match us, hl with | [_], _ => rfl
  obtain ⟨d_Gain_late, F_Gain_late⟩ := c.def_ 51 (d := (⟨("Gain", some "late"), "late", "Gain.late", defArgs sGainLate, defBody sGainLate, defScope sGainLate, [], []⟩ : He.DefD)) rfl
  have b_Gain_late : Binds K d_Gain_late ["self"] [] := FunD.bindsN F_Gain_late fun _ _ _ _ _ _ us hl => match us, hl with | [_], _ => rfl
  obtain ⟨d_Mix_DinitD, F_Mix_DinitD⟩ := c.def_ 52 (d := (⟨("Mix", some "__init__"), "__init__", "Mix.__init__", defArgs sMixInit, defBody sMixInit, defScope sMixInit, [], [("late", .int 0), ("begin", .int 0)]⟩ : He.DefD)) rfl
  obtain ⟨d_Mix_takes, F_Mix_takes⟩ := c.def_ 53 (d := (⟨("Mix", some "takes"), "takes", "Mix.takes", defArgs sMixTakes, defBody sMixTakes, defScope sMixTakes, [], []⟩ : He.DefD)) rfl
  have b_Mix_takes : Binds K d_Mix_takes ["self"] [] := FunD.bindsN F_Mix_takes fun _ _ _ _ _ _ us hl => match us, hl with | [_], _ => rfl
  obtain ⟨d_Mix_gives, F_Mix_gives⟩ := c.def_ 54 (d := (⟨("Mix", some "gives"), "gives", "Mix.gives", defArgs sMixGives, defBody sMixGives, defScope sMixGives, [], []⟩ : He.DefD)) rfl
  have b_Mix_gives : Binds K d_Mix_gives ["self"] [] := FunD.bindsN F_Mix_gives fun _ _ _ _ _ _ us hl => match us, hl with | [_], _ => rfl
  obtain ⟨d_Mix_late, F_Mix_late⟩ := c.def_ 55 (d := (⟨("Mix", some "late"), "late", "Mix.late", defArgs sMixLate, defBody sMixLate, defScope sMixLate, [], []⟩ : He.DefD)) rfl
  have b_Mix_late : Binds K d_Mix_late ["self"] [] := FunD.bindsN F_Mix_late fun _ _ _ _ _ _ us hl => match us, hl with | [_], _ => rfl
  obtain ⟨d_Times_DinitD, F_Times_DinitD⟩ := c.def_ 56 (d := (⟨("Times", some "__init__"), "__init__", "Times.__init__", defArgs sTimesInit, defBody sTimesInit, defScope sTimesInit, [], [("late", .int 0), ("begin", .int 0)]⟩ : He.DefD)) rfl
  obtain ⟨d_Times_takes, F_Times_takes⟩ := c.def_ 57 (d := (⟨("Times", some "takes"), "takes", "Times.takes", defArgs sTimesTakes, defBody sTimesTakes, defScope sTimesTakes, [], []⟩ : He.DefD)) rfl
  have b_Times_takes : Binds K d_Times_takes ["self"] [] := FunD.bindsN F_Times_takes fun _ _ _ _ _ _ us hl => match us, hl with | [_], _ => rfl
  obtain ⟨d_Times_gives, F_Times_gives⟩ := c.def_ 58 (d := (⟨("Times", some "gives"), "gives", "Times.gives", defArgs sTimesGives, defBody sTimesGives, defScope sTimesGives, [], []⟩ : He.DefD)) rfl
  have b_Times_gives : Binds K d_Times_gives ["self"] [] := FunD.bindsN F_Times_gives fun _ _ _ _ _ _ us hl => match us, hl with | [_], _ => rfl
  obtain ⟨d_Times_late, F_Times_late⟩ := c.def_ 59 (d := (⟨("Times", some "late"), "late", "Times.late", defArgs sTimesLate, defBody sTimesLate, defScope sTimesLate, [], []⟩ : He.DefD)) rfl
  have b_Times_late : Binds K d_Times_late ["self"] [] := FunD.bindsN F_Times_late fun _ _ _ _ _ _ us hl => match us, hl with | [_], _ => rfl
  obtain ⟨d_Clip_DinitD, F_Clip_DinitD⟩ := c.def_ 60 (d := (⟨("Clip", some "__init__"), "__init__", "Clip.__init__", defArgs sClipInit, defBody sClipInit, defScope sClipInit, [], [("late", .int 0), ("begin", .int 0)]⟩ : He.DefD)) rfl
  obtain ⟨d_Clip_takes, F_Clip_takes⟩ := c.def_ 61 (d := (⟨("Clip", some "takes"), "takes", "Clip.takes", defArgs sClipTakes, defBody sClipTakes, defScope sClipTakes, [], []⟩ : He.DefD)) rfl
  have b_Clip_takes : Binds K d_Clip_takes ["self"] [] := FunD.bindsN F_Clip_takes fun _ _ _ _ _ _ us hl => match us, hl with | [_], _ => rfl
  obtain ⟨d_Clip_gives, F_Clip_gives⟩ := c.def_ 62 (d := (⟨("Clip", some "gives"), "gives", "Clip.gives", defArgs sClipGives, defBody sClipGives, defScope sClipGives, [], []⟩ : He.DefD)) rfl
  have b_Clip_gives : Binds K d_Clip_gives ["self"] [] := FunD.bindsN F_Clip_gives fun _ _ _ _ _ _ us hl => match us, hl with | [_], _ => rfl
  obtain ⟨d_Clip_late, F_Clip_late⟩ := c.def_ 63 (d := (⟨("Clip", some "late"), "late", "Clip.late", defArgs sClipLate, defBody sClipLate, defScope sClipLate, [], []⟩ : He.DefD)) rfl
  have b_Clip_late : Binds K d_Clip_late ["self"] [] := FunD.bindsN F_Clip_late fun _ _ _ _ _ _ us hl => match us, hl with | [_], _ => rfl
  obtain ⟨d_Share_DinitD, F_Share_DinitD⟩ := c.def_ 64 (d := (⟨("Share", some "__init__"), "__init__", "Share.__init__", defArgs sShareInit, defBody sShareInit, defScope sShareInit, [], [("late", .int 0), ("begin", .int 0)]⟩ : He.DefD)) rfl
  obtain ⟨d_Share_takes, F_Share_takes⟩ := c.def_ 65 (d := (⟨("Share", some "takes"), "takes", "Share.takes", defArgs sShareTakes, defBody sShareTakes, defScope sShareTakes, [], []⟩ : He.DefD)) rfl
  have b_Share_takes : Binds K d_Share_takes ["self"] [] := FunD.bindsN F_Share_takes fun _ _ _ _ _ _ us hl => match us, hl with | [_], _ => rfl
  obtain ⟨d_Share_gives, F_Share_gives⟩ := c.def_ 66 (d := (⟨("Share", some "gives"), "gives", "Share.gives", defArgs sShareGives, defBody sShareGives, defScope sShareGives, [], []⟩ : He.DefD)) rfl
  have b_Share_gives : Binds K d_Share_gives ["self"] [] := FunD.bindsN F_Share_gives fun _ _ _ _ _ _ us hl => match us, hl with | [_], _ => rfl
  obtain ⟨d_Share_late, F_Share_late⟩ := c.def_ 67 (d := (⟨("Share", some "late"), "late", "Share.late", defArgs sShareLate, defBody sShareLate, defScope sShareLate, [], []⟩ : He.DefD)) rfl
  have b_Share_late : Binds K d_Share_late ["self"] [] := FunD.bindsN F_Share_late fun _ _ _ _ _ _ us hl => match us, hl with | [_], _ => rfl
  obtain ⟨d_Choose_DinitD, F_Choose_DinitD⟩ := c.def_ 68 (d := (⟨("Choose", some "__init__"), "__init__", "Choose.__init__", defArgs sChooseInit, defBody sChooseInit, defScope sChooseInit, [], [("late", .int 0), ("begin", .int 0)]⟩ : He.DefD)) rfl
  obtain ⟨d_Choose_takes, F_Choose_takes⟩ := c.def_ 69 (d := (⟨("Choose", some "takes"), "takes", "Choose.takes", defArgs sChooseTakes, defBody sChooseTakes, defScope sChooseTakes, [], []⟩ : He.DefD)) rfl
  have b_Choose_takes : Binds K d_Choose_takes ["self"] [] := FunD.bindsN F_Choose_takes fun _ _ _ _ _ _ us hl => match us, hl with | [_], _ => rfl
  obtain ⟨d_Choose_gives, F_Choose_gives⟩ := c.def_ 70 (d := (⟨("Choose", some "gives"), "gives", "Choose.gives", defArgs sChooseGives, defBody sChooseGives, defScope sChooseGives, [], []⟩ : He.DefD)) rfl
  have b_Choose_gives : Binds K d_Choose_gives ["self"] [] := FunD.bindsN F_Choose_gives fun _ _ _ _ _ _ us hl => match us, hl with | [_], _ => rfl
  obtain ⟨d_Choose_late, F_Choose_late⟩ := c.def_ 71 (d := (⟨("Choose", some "late"), "late", "Choose.late", defArgs sChooseLate, defBody sChooseLate, defScope sChooseLate, [], []⟩ : He.DefD)) rfl
  have b_Choose_late : Binds K d_Choose_late ["self"] [] := FunD.bindsN F_Choose_late fun _ _ _ _ _ _ us hl => match us, hl with | [_], _ => rfl
  obtain ⟨d_Own_DinitD, F_Own_DinitD⟩ := c.def_ 72 (d := (⟨("Own", some "__init__"), "__init__", "Own.__init__", defArgs sOwnInit, defBody sOwnInit, defScope sOwnInit, [.adr ownT, .int 1, .int 0], [("late", .int 0), ("begin", .int 0)]⟩ : He.DefD)) rfl
  obtain ⟨d_Own_takes, F_Own_takes⟩ := c.def_ 73 (d := (⟨("Own", some "takes"), "takes", "Own.takes", defArgs sOwnTakes, defBody sOwnTakes, defScope sOwnTakes, [], []⟩ : He.DefD)) rfl
  have b_Own_takes : Binds K d_Own_takes ["self"] [] := FunD.bindsN F_Own_takes fun _ _ _ _ _ _ us hl => match us, hl with | [_], _ => rfl
  obtain ⟨d_Own_gives, F_Own_gives⟩ := c.def_ 74 (d := (⟨("Own", some "gives"), "gives", "Own.gives", defArgs sOwnGives, defBody sOwnGives, defScope sOwnGives, [], []⟩ : He.DefD)) rfl
  have b_Own_gives : Binds K d_Own_gives ["self"] [] := FunD.bindsN F_Own_gives fun _ _ _ _ _ _ us hl => match us, hl with | [_], _ => rfl
  obtain ⟨d_Own_late, F_Own_late⟩ := c.def_ 75 (d := (⟨("Own", some "late"), "late", "Own.late", defArgs sOwnLate, defBody sOwnLate, defScope sOwnLate, [], []⟩ : He.DefD)) rfl
  have b_Own_late : Binds K d_Own_late ["self"] [] := FunD.bindsN F_Own_late fun _ _ _ _ _ _ us hl => match us, hl with | [_], _ => rfl
  obtain ⟨d_Taps_DinitD, F_Taps_DinitD⟩ := c.def_ 76 (d := (⟨("Taps", some "__init__"), "__init__", "Taps.__init__", defArgs sTapsInit, defBody sTapsInit, defScope sTapsInit, [], [("late", .int 0), ("begin", .int 0)]⟩ : He.DefD)) rfl
  obtain ⟨d_Taps_takes, F_Taps_takes⟩ := c.def_ 77 (d := (⟨("Taps", some "takes"), "takes", "Taps.takes", defArgs sTapsTakes, defBody sTapsTakes, defScope sTapsTakes, [], []⟩ : He.DefD)) rfl
  have b_Taps_takes : Binds K d_Taps_takes ["self"] [] := FunD.bindsN F_Taps_takes fun _ _ _ _ _ _ us hl => match us, hl with | [_], _ => rfl
  obtain ⟨d_Taps_gives, F_Taps_gives⟩ := c.def_ 78 (d := (⟨("Taps", some "gives"), "gives", "Taps.gives", defArgs sTapsGives, defBody sTapsGives, defScope sTapsGives, [], []⟩ : He.DefD)) rfl
  have b_Taps_gives : Binds K d_Taps_gives ["self"] [] := FunD.bindsN F_Taps_gives fun _ _ _ _ _ _ us hl => match us, hl with | [_], _ => rfl
  obtain ⟨d_Taps_late, F_Taps_late⟩ := c.def_ 79 (d := (⟨("Taps", some "late"), "late", "Taps.late", defArgs sTapsLate, defBody sTapsLate, defScope sTapsLate, [], []⟩ : He.DefD)) rfl
  have b_Taps_late : Binds K d_Taps_late ["self"] [] := FunD.bindsN F_Taps_late fun _ _ _ _ _ _ us hl => match us, hl with | [_], _ => rfl
  obtain ⟨d_Latch_DinitD, F_Latch_DinitD⟩ := c.def_ 80 (d := (⟨("Latch", some "__init__"), "__init__", "Latch.__init__", defArgs sLatchInit, defBody sLatchInit, defScope sLatchInit, [], [("late", .int 0), ("begin", .int 0)]⟩ : He.DefD)) rfl
  obtain ⟨d_Latch_takes, F_Latch_takes⟩ := c.def_ 81 (d := (⟨("Latch", some "takes"), "takes", "Latch.takes", defArgs sLatchTakes, defBody sLatchTakes, defScope sLatchTakes, [], []⟩ : He.DefD)) rfl
  have b_Latch_takes : Binds K d_Latch_takes ["self"] [] := FunD.bindsN F_Latch_takes fun _ _ _ _ _ _ us hl => match us, hl with | [_], _ => rfl
  obtain ⟨d_Latch_gives, F_Latch_gives⟩ := c.def_ 82 (d := (⟨("Latch", some "gives"), "gives", "Latch.gives", defArgs sLatchGives, defBody sLatchGives, defScope sLatchGives, [], []⟩ : He.DefD)) rfl
  have b_Latch_gives : Binds K d_Latch_gives ["self"] [] := FunD.bindsN F_Latch_gives fun _ _ _ _ _ _ us hl => match us, hl with | [_], _ => rfl
  obtain ⟨d_Latch_late, F_Latch_late⟩ := c.def_ 83 (d := (⟨("Latch", some "late"), "late", "Latch.late", defArgs sLatchLate, defBody sLatchLate, defScope sLatchLate, [], []⟩ : He.DefD)) rfl
  have b_Latch_late : Binds K d_Latch_late ["self"] [] := FunD.bindsN F_Latch_late fun _ _ _ _ _ _ us hl => match us, hl with | [_], _ => rfl
  obtain ⟨d_Count_DinitD, F_Count_DinitD⟩ := c.def_ 84 (d := (⟨("Count", some "__init__"), "__init__", "Count.__init__", defArgs sCountInit, defBody sCountInit, defScope sCountInit, [.int 0, .int 1, .int 0], [("late", .int 0), ("begin", .int 0)]⟩ : He.DefD)) rfl
  obtain ⟨d_Count_takes, F_Count_takes⟩ := c.def_ 85 (d := (⟨("Count", some "takes"), "takes", "Count.takes", defArgs sCountTakes, defBody sCountTakes, defScope sCountTakes, [], []⟩ : He.DefD)) rfl
  have b_Count_takes : Binds K d_Count_takes ["self"] [] := FunD.bindsN F_Count_takes fun _ _ _ _ _ _ us hl => match us, hl with | [_], _ => rfl
  obtain ⟨d_Count_gives, F_Count_gives⟩ := c.def_ 86 (d := (⟨("Count", some "gives"), "gives", "Count.gives", defArgs sCountGives, defBody sCountGives, defScope sCountGives, [], []⟩ : He.DefD)) rfl
  have b_Count_gives : Binds K d_Count_gives ["self"] [] := FunD.bindsN F_Count_gives fun _ _ _ _ _ _ us hl => match us, hl with | [_], _ => rfl
  obtain ⟨d_Count_late, F_Count_late⟩ := c.def_ 87 (d := (⟨("Count", some "late"), "late", "Count.late", defArgs sCountLate, defBody sCountLate, defScope sCountLate, [], []⟩ : He.DefD)) rfl
  have b_Count_late : Binds K d_Count_late ["self"] [] := FunD.bindsN F_Count_late fun _ _ _ _ _ _ us hl => match us, hl with | [_], _ => rfl
  obtain ⟨d_Tape_DinitD, F_Tape_DinitD⟩ := c.def_ 88 (d := (⟨("Tape", some "__init__"), "__init__", "Tape.__init__", defArgs sTapeInit, defBody sTapeInit, defScope sTapeInit, [.bl false], [("late", .int 0), ("begin", .int 0)]⟩ : He.DefD)) rfl
  obtain ⟨d_Tape_takes, F_Tape_takes⟩ := c.def_ 89 (d := (⟨("Tape", some "takes"), "takes", "Tape.takes", defArgs sTapeTakes, defBody sTapeTakes, defScope sTapeTakes, [], []⟩ : He.DefD)) rfl
  have b_Tape_takes : Binds K d_Tape_takes ["self"] [] := FunD.bindsN F_Tape_takes fun _ _ _ _ _ _ us hl => match us, hl with | [_], _ => rfl
  obtain ⟨d_Tape_gives, F_Tape_gives⟩ := c.def_ 90 (d := (⟨("Tape", some "gives"), "gives", "Tape.gives", defArgs sTapeGives, defBody sTapeGives, defScope sTapeGives, [], []⟩ : He.DefD)) rfl
  have b_Tape_gives : Binds K d_Tape_gives ["self"] [] := FunD.bindsN F_Tape_gives fun _ _ _ _ _ _ us hl => match us, hl with | [_], _ => rfl
  obtain ⟨d_Tape_late, F_Tape_late⟩ := c.def_ 91 (d := (⟨("Tape", some "late"), "late", "Tape.late", defArgs sTapeLate, defBody sTapeLate, defScope sTapeLate, [], []⟩ : He.DefD)) rfl
  have b_Tape_late : Binds K d_Tape_late ["self"] [] := FunD.bindsN F_Tape_late fun _ _ _ _ _ _ us hl => match us, hl with | [_], _ => rfl
  obtain ⟨d_Up_DinitD, F_Up_DinitD⟩ := c.def_ 92 (d := (⟨("Up", some "__init__"), "__init__", "Up.__init__", defArgs sUpInit, defBody sUpInit, defScope sUpInit, [.bl false], [("late", .int 0), ("begin", .int 0)]⟩ : He.DefD)) rfl
  obtain ⟨d_Up_takes, F_Up_takes⟩ := c.def_ 93 (d := (⟨("Up", some "takes"), "takes", "Up.takes", defArgs sUpTakes, defBody sUpTakes, defScope sUpTakes, [], []⟩ : He.DefD)) rfl
  have b_Up_takes : Binds K d_Up_takes ["self"] [] := FunD.bindsN F_Up_takes fun _ _ _ _ _ _ us hl => match us, hl with | [_], _ => rfl
  obtain ⟨d_Up_gives, F_Up_gives⟩ := c.def_ 94 (d := (⟨("Up", some "gives"), "gives", "Up.gives", defArgs sUpGives, defBody sUpGives, defScope sUpGives, [], []⟩ : He.DefD)) rfl
  have b_Up_gives : Binds K d_Up_gives ["self"] [] := FunD.bindsN F_Up_gives fun _ _ _ _ _ _ us hl => match us, hl with | [_], _ => rfl
  obtain ⟨d_Up_late, F_Up_late⟩ := c.def_ 95 (d := (⟨("Up", some "late"), "late", "Up.late", defArgs sUpLate, defBody sUpLate, defScope sUpLate, [], []⟩ : He.DefD)) rfl
  have b_Up_late : Binds K d_Up_late ["self"] [] := FunD.bindsN F_Up_late fun _ _ _ _ _ _ us hl => match us, hl with | [_], _ => rfl
  obtain ⟨d_Down_DinitD, F_Down_DinitD⟩ := c.def_ 96 (d := (⟨("Down", some "__init__"), "__init__", "Down.__init__", defArgs sDownInit, defBody sDownInit, defScope sDownInit, [], [("late", .int 0), ("begin", .int 0)]⟩ : He.DefD)) rfl
  obtain ⟨d_Down_takes, F_Down_takes⟩ := c.def_ 97 (d := (⟨("Down", some "takes"), "takes", "Down.takes", defArgs sDownTakes, defBody sDownTakes, defScope sDownTakes, [], []⟩ : He.DefD)) rfl
  have b_Down_takes : Binds K d_Down_takes ["self"] [] := FunD.bindsN F_Down_takes fun _ _ _ _ _ _ us hl => match us, hl with | [_], _ => rfl
  obtain ⟨d_Down_gives, F_Down_gives⟩ := c.def_ 98 (d := (⟨("Down", some "gives"), "gives", "Down.gives", defArgs sDownGives, defBody sDownGives, defScope sDownGives, [], []⟩ : He.DefD)) rfl
  have b_Down_gives : Binds K d_Down_gives ["self"] [] := FunD.bindsN F_Down_gives fun _ _ _ _ _ _ us hl => match us, hl with | [_], _ => rfl
  obtain ⟨d_Down_late, F_Down_late⟩ := c.def_ 99 (d := (⟨("Down", some "late"), "late", "Down.late", defArgs sDownLate, defBody sDownLate, defScope sDownLate, [], []⟩ : He.DefD)) rfl
  have b_Down_late : Binds K d_Down_late ["self"] [] := FunD.bindsN F_Down_late fun _ _ _ _ _ _ us hl => match us, hl with | [_], _ => rfl
  obtain ⟨d_Resample_DinitD, F_Resample_DinitD⟩ := c.def_ 100 (d := (⟨("Resample", some "__init__"), "__init__", "Resample.__init__", defArgs sResampleInit, defBody sResampleInit, defScope sResampleInit, [], [("late", .int 0), ("begin", .int 0)]⟩ : He.DefD)) rfl
  obtain ⟨d_Resample_takes, F_Resample_takes⟩ := c.def_ 101 (d := (⟨("Resample", some "takes"), "takes", "Resample.takes", defArgs sResampleTakes, defBody sResampleTakes, defScope sResampleTakes, [], []⟩ : He.DefD)) rfl
  have b_Resample_takes : Binds K d_Resample_takes ["self"] [] := FunD.bindsN F_Resample_takes fun _ _ _ _ _ _ us hl => match us, hl with | [_], _ => rfl
  obtain ⟨d_Resample_gives, F_Resample_gives⟩ := c.def_ 102 (d := (⟨("Resample", some "gives"), "gives", "Resample.gives", defArgs sResampleGives, defBody sResampleGives, defScope sResampleGives, [], []⟩ : He.DefD)) rfl
  have b_Resample_gives : Binds K d_Resample_gives ["self"] [] := FunD.bindsN F_Resample_gives fun _ _ _ _ _ _ us hl => match us, hl with | [_], _ => rfl
  obtain ⟨d_Resample_late, F_Resample_late⟩ := c.def_ 103 (d := (⟨("Resample", some "late"), "late", "Resample.late", defArgs sResampleLate, defBody sResampleLate, defScope sResampleLate, [], []⟩ : He.DefD)) rfl
  have b_Resample_late : Binds K d_Resample_late ["self"] [] := FunD.bindsN F_Resample_late fun _ _ _ _ _ _ us hl => match us, hl with | [_], _ => rfl
  obtain ⟨d_Weave_DinitD, F_Weave_DinitD⟩ := c.def_ 104 (d := (⟨("Weave", some "__init__"), "__init__", "Weave.__init__", defArgs sWeaveInit, defBody sWeaveInit, defScope sWeaveInit, [], []⟩ : He.DefD)) rfl
  have b_Weave_DinitD : Binds K d_Weave_DinitD ["self", "nodes", "wires"] [] := FunD.bindsN F_Weave_DinitD fun _ _ _ _ _ _ us hl => match us, hl with | [_, _, _], _ => rfl
  obtain ⟨d_Weave_wires, F_Weave_wires⟩ := c.def_ 105 (d := (⟨("Weave", some "wires"), "wires", "Weave.wires", defArgs sWeaveWires, defBody sWeaveWires, defScope sWeaveWires, [], []⟩ : He.DefD)) rfl
  have b_Weave_wires : Binds K d_Weave_wires ["self"] [] := FunD.bindsN F_Weave_wires fun _ _ _ _ _ _ us hl => match us, hl with | [_], _ => rfl
  obtain ⟨d_Weave_node, F_Weave_node⟩ := c.def_ 106 (d := (⟨("Weave", some "node"), "node", "Weave.node", defArgs sWeaveNode, defBody sWeaveNode, defScope sWeaveNode, [], []⟩ : He.DefD)) rfl
  have b_Weave_node : Binds K d_Weave_node ["self", "name"] [] := FunD.bindsN F_Weave_node fun _ _ _ _ _ _ us hl => match us, hl with | [_, _], _ => rfl
  obtain ⟨d_Weave_check_known, F_Weave_check_known⟩ := c.def_ 107 (d := (⟨("Weave", some "check_known"), "check_known", "Weave.check_known", defArgs sWeaveCheckKnown, defBody sWeaveCheckKnown, defScope sWeaveCheckKnown, [], []⟩ : He.DefD)) rfl
  have b_Weave_check_known : Binds K d_Weave_check_known ["self", "name"] [] := FunD.bindsN F_Weave_check_known fun _ _ _ _ _ _ us hl => match us, hl with | [_, _], _ => rfl
  obtain ⟨d_Weave_pairs, F_Weave_pairs⟩ := c.def_ 108 (d := (⟨("Weave", some "pairs"), "pairs", "Weave.pairs", defArgs sWeavePairs, defBody sWeavePairs, defScope sWeavePairs, [], []⟩ : He.DefD)) rfl
  have b_Weave_pairs : Binds K d_Weave_pairs ["self"] [] := FunD.bindsN F_Weave_pairs fun _ _ _ _ _ _ us hl => match us, hl with | [_], _ => rfl
  obtain ⟨d_Weave_put, F_Weave_put⟩ := c.def_ 109 (d := (⟨("Weave", some "put"), "put", "Weave.put", defArgs sWeavePut, defBody sWeavePut, defScope sWeavePut, [], []⟩ : He.DefD)) rfl
  have b_Weave_put : Binds K d_Weave_put ["self", "name", "node"] [] := FunD.bindsN F_Weave_put fun _ _ _ _ _ _ us hl => match us, hl with | [_, _, _], _ => rfl
  obtain ⟨d_Weave_delayed, F_Weave_delayed⟩ := c.def_ 110 (d := (⟨("Weave", some "delayed"), "delayed", "Weave.delayed", defArgs sWeaveDelayed, defBody sWeaveDelayed, defScope sWeaveDelayed, [], []⟩ : He.DefD)) rfl
  have b_Weave_delayed : Binds K d_Weave_delayed ["self", "delays"] [] := FunD.bindsN F_Weave_delayed fun _ _ _ _ _ _ us hl => match us, hl with | [_, _], _ => rfl
  have z_len := He.free_ok X G (c.fact 39 (f := .free "len") rfl)
  have z_max := He.free_ok X G (c.fact 40 (f := .free "max") rfl)
  have z_min := He.free_ok X G (c.fact 41 (f := .free "min") rfl)
  have z_abs := He.free_ok X G (c.fact 42 (f := .free "abs") rfl)
  have z_sum := He.free_ok X G (c.fact 43 (f := .free "sum") rfl)
  have z_range := He.free_ok X G (c.fact 44 (f := .free "range") rfl)
  have z_isinstance := He.free_ok X G (c.fact 45 (f := .free "isinstance") rfl)
  have z_int := He.free_ok X G (c.fact 46 (f := .free "int") rfl)
  have z_bool := He.free_ok X G (c.fact 47 (f := .free "bool") rfl)
  have z_list := He.free_ok X G (c.fact 48 (f := .free "list") rfl)
  have z_tuple := He.free_ok X G (c.fact 49 (f := .free "tuple") rfl)
  have z_str := He.free_ok X G (c.fact 50 (f := .free "str") rfl)
  have z_repr := He.free_ok X G (c.fact 51 (f := .free "repr") rfl)
  have z_all := He.free_ok X G (c.fact 52 (f := .free "all") rfl)
  have z_enumerate := He.free_ok X G (c.fact 53 (f := .free "enumerate") rfl)
  have z_dict := He.free_ok X G (c.fact 54 (f := .free "dict") rfl)
  have z_zip := He.free_ok X G (c.fact 55 (f := .free "zip") rfl)
  have z_MOST_LATE := He.int_ok X G (c.fact 56 (f := .int "MOST_LATE" 99) rfl)
  have z_MOST_BEGIN := He.int_ok X G (c.fact 57 (f := .int "MOST_BEGIN" 9999) rfl)
  have z_MOST_MIXED := He.int_ok X G (c.fact 58 (f := .int "MOST_MIXED" 8) rfl)
  have z_MOST_OWN_PLACES := He.int_ok X G (c.fact 59 (f := .int "MOST_OWN_PLACES" 4) rfl)
  have z_MOST_OWN_SAMPLES := He.int_ok X G (c.fact 60 (f := .int "MOST_OWN_SAMPLES" 8) rfl)
  have z_MOST_NODES := He.int_ok X G (c.fact 61 (f := .int "MOST_NODES" 24) rfl)
  have z_MOST_WIRES := He.int_ok X G (c.fact 62 (f := .int "MOST_WIRES" 48) rfl)
  have z_MOST_DELAY := He.int_ok X G (c.fact 63 (f := .int "MOST_DELAY" 9999) rfl)
  have z_MOST_TAPS := He.int_ok X G (c.fact 64 (f := .int "MOST_TAPS" 12) rfl)
  have z_MOST_TAPED := He.int_ok X G (c.fact 65 (f := .int "MOST_TAPED" 60) rfl)
  have z_MOST_RATE := He.int_ok X G (c.fact 66 (f := .int "MOST_RATE" 8) rfl)
  have z_LONGEST_NAME := He.int_ok X G (c.fact 67 (f := .int "LONGEST_NAME" 8) rfl)
  have G_Node := He.glo_ok X G (c.fact 68 (f := .glo "Node") rfl)
  have G_Weave := He.glo_ok X G (c.fact 69 (f := .glo "Weave") rfl)
  have G_Inlet := He.glo_ok X G (c.fact 70 (f := .glo "Inlet") rfl)
  have G_Outlet := He.glo_ok X G (c.fact 71 (f := .glo "Outlet") rfl)
  have G_Gain := He.glo_ok X G (c.fact 72 (f := .glo "Gain") rfl)
  have G_Mix := He.glo_ok X G (c.fact 73 (f := .glo "Mix") rfl)
  have G_Times := He.glo_ok X G (c.fact 74 (f := .glo "Times") rfl)
  have G_Clip := He.glo_ok X G (c.fact 75 (f := .glo "Clip") rfl)
  have G_Share := He.glo_ok X G (c.fact 76 (f := .glo "Share") rfl)
  have G_Choose := He.glo_ok X G (c.fact 77 (f := .glo "Choose") rfl)
  have G_Own := He.glo_ok X G (c.fact 78 (f := .glo "Own") rfl)
  have G_Taps := He.glo_ok X G (c.fact 79 (f := .glo "Taps") rfl)
  have G_Latch := He.glo_ok X G (c.fact 80 (f := .glo "Latch") rfl)
  have G_Count := He.glo_ok X G (c.fact 81 (f := .glo "Count") rfl)
  have G_Tape := He.glo_ok X G (c.fact 82 (f := .glo "Tape") rfl)
  have G_Up := He.glo_ok X G (c.fact 83 (f := .glo "Up") rfl)
  have G_Down := He.glo_ok X G (c.fact 84 (f := .glo "Down") rfl)
  have G_Resample := He.glo_ok X G (c.fact 85 (f := .glo "Resample") rfl)
  have G__law_deed := He.glo_ok X G (c.fact 86 (f := .glo "_law_deed") rfl)
  have c_Inlet := He.cls_ok (c.fact 87 (f := .cls "Inlet") rfl)
  have n_Inlet_made := He.noat_ok (c.fact 88 (f := .noat "Inlet" "made") rfl)
  have n_Inlet_late_by := He.noat_ok (c.fact 89 (f := .noat "Inlet" "late_by") rfl)
  have n_Inlet_begin_at := He.noat_ok (c.fact 90 (f := .noat "Inlet" "begin_at") rfl)
  have mk_Inlet := He.mkr_ok (c.fact 91 (f := .mkr "Inlet") rfl)
  have m_Inlet_takes := He.meth_ok (c.fact 92 (f := .meth "Inlet" "takes") rfl)
  have m_Inlet_gives := He.meth_ok (c.fact 93 (f := .meth "Inlet" "gives") rfl)
  have m_Inlet_late := He.meth_ok (c.fact 94 (f := .meth "Inlet" "late") rfl)
  have c_Outlet := He.cls_ok (c.fact 95 (f := .cls "Outlet") rfl)
  have n_Outlet_made := He.noat_ok (c.fact 96 (f := .noat "Outlet" "made") rfl)
  have n_Outlet_late_by := He.noat_ok (c.fact 97 (f := .noat "Outlet" "late_by") rfl)
  have n_Outlet_begin_at := He.noat_ok (c.fact 98 (f := .noat "Outlet" "begin_at") rfl)
  have mk_Outlet := He.mkr_ok (c.fact 99 (f := .mkr "Outlet") rfl)
  have m_Outlet_takes := He.meth_ok (c.fact 100 (f := .meth "Outlet" "takes") rfl)
  have m_Outlet_gives := He.meth_ok (c.fact 101 (f := .meth "Outlet" "gives") rfl)
  have m_Outlet_late := He.meth_ok (c.fact 102 (f := .meth "Outlet" "late") rfl)
  have c_Gain := He.cls_ok (c.fact 103 (f := .cls "Gain") rfl)
  have n_Gain_made := He.noat_ok (c.fact 104 (f := .noat "Gain" "made") rfl)
  have n_Gain_late_by := He.noat_ok (c.fact 105 (f := .noat "Gain" "late_by") rfl)
  have n_Gain_begin_at := He.noat_ok (c.fact 106 (f := .noat "Gain" "begin_at") rfl)
  have n_Gain_by := He.noat_ok (c.fact 107 (f := .noat "Gain" "by") rfl)
  have mk_Gain := He.mkr_ok (c.fact 108 (f := .mkr "Gain") rfl)
  have m_Gain_takes := He.meth_ok (c.fact 109 (f := .meth "Gain" "takes") rfl)
  have m_Gain_gives := He.meth_ok (c.fact 110 (f := .meth "Gain" "gives") rfl)
  have m_Gain_late := He.meth_ok (c.fact 111 (f := .meth "Gain" "late") rfl)
  have c_Mix := He.cls_ok (c.fact 112 (f := .cls "Mix") rfl)
  have n_Mix_made := He.noat_ok (c.fact 113 (f := .noat "Mix" "made") rfl)
  have n_Mix_late_by := He.noat_ok (c.fact 114 (f := .noat "Mix" "late_by") rfl)
  have n_Mix_begin_at := He.noat_ok (c.fact 115 (f := .noat "Mix" "begin_at") rfl)
  have n_Mix_many := He.noat_ok (c.fact 116 (f := .noat "Mix" "many") rfl)
  have mk_Mix := He.mkr_ok (c.fact 117 (f := .mkr "Mix") rfl)
  have m_Mix_takes := He.meth_ok (c.fact 118 (f := .meth "Mix" "takes") rfl)
  have m_Mix_gives := He.meth_ok (c.fact 119 (f := .meth "Mix" "gives") rfl)
  have m_Mix_late := He.meth_ok (c.fact 120 (f := .meth "Mix" "late") rfl)
  have c_Times := He.cls_ok (c.fact 121 (f := .cls "Times") rfl)
  have n_Times_made := He.noat_ok (c.fact 122 (f := .noat "Times" "made") rfl)
  have n_Times_late_by := He.noat_ok (c.fact 123 (f := .noat "Times" "late_by") rfl)
  have n_Times_begin_at := He.noat_ok (c.fact 124 (f := .noat "Times" "begin_at") rfl)
  have mk_Times := He.mkr_ok (c.fact 125 (f := .mkr "Times") rfl)
  have m_Times_takes := He.meth_ok (c.fact 126 (f := .meth "Times" "takes") rfl)
  have m_Times_gives := He.meth_ok (c.fact 127 (f := .meth "Times" "gives") rfl)
  have m_Times_late := He.meth_ok (c.fact 128 (f := .meth "Times" "late") rfl)
  have c_Clip := He.cls_ok (c.fact 129 (f := .cls "Clip") rfl)
  have n_Clip_made := He.noat_ok (c.fact 130 (f := .noat "Clip" "made") rfl)
  have n_Clip_late_by := He.noat_ok (c.fact 131 (f := .noat "Clip" "late_by") rfl)
  have n_Clip_begin_at := He.noat_ok (c.fact 132 (f := .noat "Clip" "begin_at") rfl)
  have n_Clip_low := He.noat_ok (c.fact 133 (f := .noat "Clip" "low") rfl)
  have n_Clip_high := He.noat_ok (c.fact 134 (f := .noat "Clip" "high") rfl)
  have mk_Clip := He.mkr_ok (c.fact 135 (f := .mkr "Clip") rfl)
  have m_Clip_takes := He.meth_ok (c.fact 136 (f := .meth "Clip" "takes") rfl)
  have m_Clip_gives := He.meth_ok (c.fact 137 (f := .meth "Clip" "gives") rfl)
  have m_Clip_late := He.meth_ok (c.fact 138 (f := .meth "Clip" "late") rfl)
  have c_Share := He.cls_ok (c.fact 139 (f := .cls "Share") rfl)
  have n_Share_made := He.noat_ok (c.fact 140 (f := .noat "Share" "made") rfl)
  have n_Share_late_by := He.noat_ok (c.fact 141 (f := .noat "Share" "late_by") rfl)
  have n_Share_begin_at := He.noat_ok (c.fact 142 (f := .noat "Share" "begin_at") rfl)
  have n_Share_by := He.noat_ok (c.fact 143 (f := .noat "Share" "by") rfl)
  have mk_Share := He.mkr_ok (c.fact 144 (f := .mkr "Share") rfl)
  have m_Share_takes := He.meth_ok (c.fact 145 (f := .meth "Share" "takes") rfl)
  have m_Share_gives := He.meth_ok (c.fact 146 (f := .meth "Share" "gives") rfl)
  have m_Share_late := He.meth_ok (c.fact 147 (f := .meth "Share" "late") rfl)
  have c_Choose := He.cls_ok (c.fact 148 (f := .cls "Choose") rfl)
  have n_Choose_made := He.noat_ok (c.fact 149 (f := .noat "Choose" "made") rfl)
  have n_Choose_late_by := He.noat_ok (c.fact 150 (f := .noat "Choose" "late_by") rfl)
  have n_Choose_begin_at := He.noat_ok (c.fact 151 (f := .noat "Choose" "begin_at") rfl)
  have mk_Choose := He.mkr_ok (c.fact 152 (f := .mkr "Choose") rfl)
  have m_Choose_takes := He.meth_ok (c.fact 153 (f := .meth "Choose" "takes") rfl)
  have m_Choose_gives := He.meth_ok (c.fact 154 (f := .meth "Choose" "gives") rfl)
  have m_Choose_late := He.meth_ok (c.fact 155 (f := .meth "Choose" "late") rfl)
  have c_Own := He.cls_ok (c.fact 156 (f := .cls "Own") rfl)
  have n_Own_made := He.noat_ok (c.fact 157 (f := .noat "Own" "made") rfl)
  have n_Own_late_by := He.noat_ok (c.fact 158 (f := .noat "Own" "late_by") rfl)
  have n_Own_begin_at := He.noat_ok (c.fact 159 (f := .noat "Own" "begin_at") rfl)
  have n_Own_deed := He.noat_ok (c.fact 160 (f := .noat "Own" "deed") rfl)
  have n_Own_taken := He.noat_ok (c.fact 161 (f := .noat "Own" "taken") rfl)
  have n_Own_given := He.noat_ok (c.fact 162 (f := .noat "Own" "given") rfl)
  have n_Own_first := He.noat_ok (c.fact 163 (f := .noat "Own" "first") rfl)
  have mk_Own := He.mkr_ok (c.fact 164 (f := .mkr "Own") rfl)
  have m_Own_takes := He.meth_ok (c.fact 165 (f := .meth "Own" "takes") rfl)
  have m_Own_gives := He.meth_ok (c.fact 166 (f := .meth "Own" "gives") rfl)
  have m_Own_late := He.meth_ok (c.fact 167 (f := .meth "Own" "late") rfl)
  have c_Taps := He.cls_ok (c.fact 168 (f := .cls "Taps") rfl)
  have n_Taps_made := He.noat_ok (c.fact 169 (f := .noat "Taps" "made") rfl)
  have n_Taps_late_by := He.noat_ok (c.fact 170 (f := .noat "Taps" "late_by") rfl)
  have n_Taps_begin_at := He.noat_ok (c.fact 171 (f := .noat "Taps" "begin_at") rfl)
  have n_Taps_numbers := He.noat_ok (c.fact 172 (f := .noat "Taps" "numbers") rfl)
  have mk_Taps := He.mkr_ok (c.fact 173 (f := .mkr "Taps") rfl)
  have m_Taps_takes := He.meth_ok (c.fact 174 (f := .meth "Taps" "takes") rfl)
  have m_Taps_gives := He.meth_ok (c.fact 175 (f := .meth "Taps" "gives") rfl)
  have m_Taps_late := He.meth_ok (c.fact 176 (f := .meth "Taps" "late") rfl)
  have c_Latch := He.cls_ok (c.fact 177 (f := .cls "Latch") rfl)
  have n_Latch_made := He.noat_ok (c.fact 178 (f := .noat "Latch" "made") rfl)
  have n_Latch_late_by := He.noat_ok (c.fact 179 (f := .noat "Latch" "late_by") rfl)
  have n_Latch_begin_at := He.noat_ok (c.fact 180 (f := .noat "Latch" "begin_at") rfl)
  have mk_Latch := He.mkr_ok (c.fact 181 (f := .mkr "Latch") rfl)
  have m_Latch_takes := He.meth_ok (c.fact 182 (f := .meth "Latch" "takes") rfl)
  have m_Latch_gives := He.meth_ok (c.fact 183 (f := .meth "Latch" "gives") rfl)
  have m_Latch_late := He.meth_ok (c.fact 184 (f := .meth "Latch" "late") rfl)
  have c_Count := He.cls_ok (c.fact 185 (f := .cls "Count") rfl)
  have n_Count_made := He.noat_ok (c.fact 186 (f := .noat "Count" "made") rfl)
  have n_Count_late_by := He.noat_ok (c.fact 187 (f := .noat "Count" "late_by") rfl)
  have n_Count_begin_at := He.noat_ok (c.fact 188 (f := .noat "Count" "begin_at") rfl)
  have n_Count_first := He.noat_ok (c.fact 189 (f := .noat "Count" "first") rfl)
  have n_Count_step := He.noat_ok (c.fact 190 (f := .noat "Count" "step") rfl)
  have n_Count_size := He.noat_ok (c.fact 191 (f := .noat "Count" "size") rfl)
  have mk_Count := He.mkr_ok (c.fact 192 (f := .mkr "Count") rfl)
  have m_Count_takes := He.meth_ok (c.fact 193 (f := .meth "Count" "takes") rfl)
  have m_Count_gives := He.meth_ok (c.fact 194 (f := .meth "Count" "gives") rfl)
  have m_Count_late := He.meth_ok (c.fact 195 (f := .meth "Count" "late") rfl)
  have c_Tape := He.cls_ok (c.fact 196 (f := .cls "Tape") rfl)
  have n_Tape_made := He.noat_ok (c.fact 197 (f := .noat "Tape" "made") rfl)
  have n_Tape_late_by := He.noat_ok (c.fact 198 (f := .noat "Tape" "late_by") rfl)
  have n_Tape_begin_at := He.noat_ok (c.fact 199 (f := .noat "Tape" "begin_at") rfl)
  have n_Tape_numbers := He.noat_ok (c.fact 200 (f := .noat "Tape" "numbers") rfl)
  have n_Tape_again := He.noat_ok (c.fact 201 (f := .noat "Tape" "again") rfl)
  have mk_Tape := He.mkr_ok (c.fact 202 (f := .mkr "Tape") rfl)
  have m_Tape_takes := He.meth_ok (c.fact 203 (f := .meth "Tape" "takes") rfl)
  have m_Tape_gives := He.meth_ok (c.fact 204 (f := .meth "Tape" "gives") rfl)
  have m_Tape_late := He.meth_ok (c.fact 205 (f := .meth "Tape" "late") rfl)
  have c_Up := He.cls_ok (c.fact 206 (f := .cls "Up") rfl)
  have n_Up_made := He.noat_ok (c.fact 207 (f := .noat "Up" "made") rfl)
  have n_Up_late_by := He.noat_ok (c.fact 208 (f := .noat "Up" "late_by") rfl)
  have n_Up_begin_at := He.noat_ok (c.fact 209 (f := .noat "Up" "begin_at") rfl)
  have n_Up_many := He.noat_ok (c.fact 210 (f := .noat "Up" "many") rfl)
  have n_Up_hold := He.noat_ok (c.fact 211 (f := .noat "Up" "hold") rfl)
  have mk_Up := He.mkr_ok (c.fact 212 (f := .mkr "Up") rfl)
  have m_Up_takes := He.meth_ok (c.fact 213 (f := .meth "Up" "takes") rfl)
  have m_Up_gives := He.meth_ok (c.fact 214 (f := .meth "Up" "gives") rfl)
  have m_Up_late := He.meth_ok (c.fact 215 (f := .meth "Up" "late") rfl)
  have c_Down := He.cls_ok (c.fact 216 (f := .cls "Down") rfl)
  have n_Down_made := He.noat_ok (c.fact 217 (f := .noat "Down" "made") rfl)
  have n_Down_late_by := He.noat_ok (c.fact 218 (f := .noat "Down" "late_by") rfl)
  have n_Down_begin_at := He.noat_ok (c.fact 219 (f := .noat "Down" "begin_at") rfl)
  have n_Down_many := He.noat_ok (c.fact 220 (f := .noat "Down" "many") rfl)
  have mk_Down := He.mkr_ok (c.fact 221 (f := .mkr "Down") rfl)
  have m_Down_takes := He.meth_ok (c.fact 222 (f := .meth "Down" "takes") rfl)
  have m_Down_gives := He.meth_ok (c.fact 223 (f := .meth "Down" "gives") rfl)
  have m_Down_late := He.meth_ok (c.fact 224 (f := .meth "Down" "late") rfl)
  have c_Resample := He.cls_ok (c.fact 225 (f := .cls "Resample") rfl)
  have n_Resample_made := He.noat_ok (c.fact 226 (f := .noat "Resample" "made") rfl)
  have n_Resample_late_by := He.noat_ok (c.fact 227 (f := .noat "Resample" "late_by") rfl)
  have n_Resample_begin_at := He.noat_ok (c.fact 228 (f := .noat "Resample" "begin_at") rfl)
  have n_Resample_numbers := He.noat_ok (c.fact 229 (f := .noat "Resample" "numbers") rfl)
  have n_Resample_up := He.noat_ok (c.fact 230 (f := .noat "Resample" "up") rfl)
  have n_Resample_down := He.noat_ok (c.fact 231 (f := .noat "Resample" "down") rfl)
  have mk_Resample := He.mkr_ok (c.fact 232 (f := .mkr "Resample") rfl)
  have m_Resample_takes := He.meth_ok (c.fact 233 (f := .meth "Resample" "takes") rfl)
  have m_Resample_gives := He.meth_ok (c.fact 234 (f := .meth "Resample" "gives") rfl)
  have m_Resample_late := He.meth_ok (c.fact 235 (f := .meth "Resample" "late") rfl)
  have c_Weave := He.cls_ok (c.fact 236 (f := .cls "Weave") rfl)
  have n_Weave_named := He.noat_ok (c.fact 237 (f := .noat "Weave" "named") rfl)
  have n_Weave_leading := He.noat_ok (c.fact 238 (f := .noat "Weave" "leading") rfl)
  have n_Weave_laid := He.noat_ok (c.fact 239 (f := .noat "Weave" "laid") rfl)
  have n_Weave_leaving := He.noat_ok (c.fact 240 (f := .noat "Weave" "leaving") rfl)
  have mk_Weave := He.mkr_ok (c.fact 241 (f := .mkr "Weave") rfl)
  have m_Weave_wires := He.meth_ok (c.fact 242 (f := .meth "Weave" "wires") rfl)
  have m_Weave_node := He.meth_ok (c.fact 243 (f := .meth "Weave" "node") rfl)
  have m_Weave_check_known := He.meth_ok (c.fact 244 (f := .meth "Weave" "check_known") rfl)
  have m_Weave_pairs := He.meth_ok (c.fact 245 (f := .meth "Weave" "pairs") rfl)
  have m_Weave_put := He.meth_ok (c.fact 246 (f := .meth "Weave" "put") rfl)
  have m_Weave_delayed := He.meth_ok (c.fact 247 (f := .meth "Weave" "delayed") rfl)
  have z_LETTERS := He.str_ok X G (c.fact 248 (f := .str "LETTERS" "abcdefghijklmnopqrstuvwxyz") rfl)
  obtain ⟨x_iN_Inlet, cx⟩ := He.ba cx
  obtain ⟨x_kO_Inlet, cx⟩ := He.ba cx
  obtain ⟨x_kI_Inlet, cx⟩ := He.ba cx
  obtain ⟨x_iN_Outlet, cx⟩ := He.ba cx
  obtain ⟨x_kO_Outlet, cx⟩ := He.ba cx
  obtain ⟨x_kI_Outlet, cx⟩ := He.ba cx
  obtain ⟨x_iN_Gain, cx⟩ := He.ba cx
  obtain ⟨x_kO_Gain, cx⟩ := He.ba cx
  obtain ⟨x_kI_Gain, cx⟩ := He.ba cx
  obtain ⟨x_iN_Mix, cx⟩ := He.ba cx
  obtain ⟨x_kO_Mix, cx⟩ := He.ba cx
  obtain ⟨x_kI_Mix, cx⟩ := He.ba cx
  obtain ⟨x_iN_Times, cx⟩ := He.ba cx
  obtain ⟨x_kO_Times, cx⟩ := He.ba cx
  obtain ⟨x_kI_Times, cx⟩ := He.ba cx
  obtain ⟨x_iN_Clip, cx⟩ := He.ba cx
  obtain ⟨x_kO_Clip, cx⟩ := He.ba cx
  obtain ⟨x_kI_Clip, cx⟩ := He.ba cx
  obtain ⟨x_iN_Share, cx⟩ := He.ba cx
  obtain ⟨x_kO_Share, cx⟩ := He.ba cx
  obtain ⟨x_kI_Share, cx⟩ := He.ba cx
  obtain ⟨x_iN_Choose, cx⟩ := He.ba cx
  obtain ⟨x_kO_Choose, cx⟩ := He.ba cx
  obtain ⟨x_kI_Choose, cx⟩ := He.ba cx
  obtain ⟨x_iN_Own, cx⟩ := He.ba cx
  obtain ⟨x_kO_Own, cx⟩ := He.ba cx
  obtain ⟨x_kI_Own, cx⟩ := He.ba cx
  obtain ⟨x_iN_Taps, cx⟩ := He.ba cx
  obtain ⟨x_kO_Taps, cx⟩ := He.ba cx
  obtain ⟨x_kI_Taps, cx⟩ := He.ba cx
  obtain ⟨x_iN_Latch, cx⟩ := He.ba cx
  obtain ⟨x_kO_Latch, cx⟩ := He.ba cx
  obtain ⟨x_kI_Latch, cx⟩ := He.ba cx
  obtain ⟨x_iN_Count, cx⟩ := He.ba cx
  obtain ⟨x_kO_Count, cx⟩ := He.ba cx
  obtain ⟨x_kI_Count, cx⟩ := He.ba cx
  obtain ⟨x_iN_Tape, cx⟩ := He.ba cx
  obtain ⟨x_kO_Tape, cx⟩ := He.ba cx
  obtain ⟨x_kI_Tape, cx⟩ := He.ba cx
  obtain ⟨x_iN_Up, cx⟩ := He.ba cx
  obtain ⟨x_kO_Up, cx⟩ := He.ba cx
  obtain ⟨x_kI_Up, cx⟩ := He.ba cx
  obtain ⟨x_iN_Down, cx⟩ := He.ba cx
  obtain ⟨x_kO_Down, cx⟩ := He.ba cx
  obtain ⟨x_kI_Down, cx⟩ := He.ba cx
  obtain ⟨x_iN_Resample, cx⟩ := He.ba cx
  obtain ⟨x_kO_Resample, cx⟩ := He.ba cx
  obtain ⟨x_kI_Resample, cx⟩ := He.ba cx
  have mB := baseB_ok cx
  obtain ⟨mvGain, kbGain⟩ := FunD.kbinds0 (ps := ["self", "by", "late", "begin"]) F_Gain_DinitD 2 ["late", "begin"] [] (fun us mv ws => us ++ ws) (by intro z; cases z) (fun _ h => (List.not_mem_nil h).elim) (fun r1 _ r3 => r1.append r3) (by
      intro D doc pm an cdv ct us mv ws l1 l2 l3
      match us, mv, ws, l1, l2, l3 with
      | [_, _], [], [_, _], _, _, _ => exact rfl)
  obtain ⟨mvMix, kbMix⟩ := FunD.kbinds0 (ps := ["self", "many", "late", "begin"]) F_Mix_DinitD 2 ["late", "begin"] [] (fun us mv ws => us ++ ws) (by intro z; cases z) (fun _ h => (List.not_mem_nil h).elim) (fun r1 _ r3 => r1.append r3) (by
      intro D doc pm an cdv ct us mv ws l1 l2 l3
      match us, mv, ws, l1, l2, l3 with
      | [_, _], [], [_, _], _, _, _ => exact rfl)
  obtain ⟨mvTimes, kbTimes⟩ := FunD.kbinds0 (ps := ["self", "late", "begin"]) F_Times_DinitD 1 ["late", "begin"] [] (fun us mv ws => us ++ ws) (by intro z; cases z) (fun _ h => (List.not_mem_nil h).elim) (fun r1 _ r3 => r1.append r3) (by
      intro D doc pm an cdv ct us mv ws l1 l2 l3
      match us, mv, ws, l1, l2, l3 with
      | [_], [], [_, _], _, _, _ => exact rfl)
  obtain ⟨mvClip, kbClip⟩ := FunD.kbinds0 (ps := ["self", "low", "high", "late", "begin"]) F_Clip_DinitD 3 ["late", "begin"] [] (fun us mv ws => us ++ ws) (by intro z; cases z) (fun _ h => (List.not_mem_nil h).elim) (fun r1 _ r3 => r1.append r3) (by
      intro D doc pm an cdv ct us mv ws l1 l2 l3
      match us, mv, ws, l1, l2, l3 with
      | [_, _, _], [], [_, _], _, _, _ => exact rfl)
  obtain ⟨mvShare, kbShare⟩ := FunD.kbinds0 (ps := ["self", "by", "late", "begin"]) F_Share_DinitD 2 ["late", "begin"] [] (fun us mv ws => us ++ ws) (by intro z; cases z) (fun _ h => (List.not_mem_nil h).elim) (fun r1 _ r3 => r1.append r3) (by
      intro D doc pm an cdv ct us mv ws l1 l2 l3
      match us, mv, ws, l1, l2, l3 with
      | [_, _], [], [_, _], _, _, _ => exact rfl)
  obtain ⟨mvChoose, kbChoose⟩ := FunD.kbinds0 (ps := ["self", "late", "begin"]) F_Choose_DinitD 1 ["late", "begin"] [] (fun us mv ws => us ++ ws) (by intro z; cases z) (fun _ h => (List.not_mem_nil h).elim) (fun r1 _ r3 => r1.append r3) (by
      intro D doc pm an cdv ct us mv ws l1 l2 l3
      match us, mv, ws, l1, l2, l3 with
      | [_], [], [_, _], _, _, _ => exact rfl)
  obtain ⟨itsOwn, mvOwn, kbOwn⟩ := FunD.kbinds (ps := ["self", "deed", "takes", "gives", "first", "late", "begin"]) F_Own_DinitD 4 ["late", "begin"] [] (fun us its mv ws => us ++ its.drop 2 ++ ws) (by intro z; cases z) (by intro z; cases z) (fun _ h => (List.not_mem_nil h).elim) (fun r1 r2 _ r4 => (r1.append (r2.drop 2)).append r4) (by
      intro T D doc pm an cdv ct us its mv ws l1 l2 l3 l4
      match us, its, mv, ws, l1, l2, l3, l4 with
      | [_, _, _, _], [_, _, _], [], [_, _], _, _, _, _ => exact ⟨_, rfl, rfl⟩)
  obtain ⟨mvTaps, kbTaps⟩ := FunD.kbinds0 (ps := ["self", "numbers", "late", "begin"]) F_Taps_DinitD 2 ["late", "begin"] [] (fun us mv ws => us ++ ws) (by intro z; cases z) (fun _ h => (List.not_mem_nil h).elim) (fun r1 _ r3 => r1.append r3) (by
      intro D doc pm an cdv ct us mv ws l1 l2 l3
      match us, mv, ws, l1, l2, l3 with
      | [_, _], [], [_, _], _, _, _ => exact rfl)
  obtain ⟨mvLatch, kbLatch⟩ := FunD.kbinds0 (ps := ["self", "late", "begin"]) F_Latch_DinitD 1 ["late", "begin"] [] (fun us mv ws => us ++ ws) (by intro z; cases z) (fun _ h => (List.not_mem_nil h).elim) (fun r1 _ r3 => r1.append r3) (by
      intro D doc pm an cdv ct us mv ws l1 l2 l3
      match us, mv, ws, l1, l2, l3 with
      | [_], [], [_, _], _, _, _ => exact rfl)
  obtain ⟨itsCount, mvCount, kbCount⟩ := FunD.kbinds (ps := ["self", "first", "step", "size", "late", "begin"]) F_Count_DinitD 1 ["late", "begin"] [] (fun us its mv ws => us ++ its ++ ws) (by intro z; cases z) (by intro z; cases z) (fun _ h => (List.not_mem_nil h).elim) (fun r1 r2 _ r4 => (r1.append r2).append r4) (by
      intro T D doc pm an cdv ct us its mv ws l1 l2 l3 l4
      match us, its, mv, ws, l1, l2, l3, l4 with
      | [_], [_, _, _], [], [_, _], _, _, _, _ => exact ⟨_, rfl, rfl⟩)
  obtain ⟨itsTape, mvTape, kbTape⟩ := FunD.kbinds (ps := ["self", "numbers", "again", "late", "begin"]) F_Tape_DinitD 3 ["late", "begin"] [] (fun us its mv ws => us ++ ws) (by intro z; cases z) (by intro z; cases z) (fun _ h => (List.not_mem_nil h).elim) (fun r1 r2 _ r4 => r1.append r4) (by
      intro T D doc pm an cdv ct us its mv ws l1 l2 l3 l4
      match us, its, mv, ws, l1, l2, l3, l4 with
      | [_, _, _], [_], [], [_, _], _, _, _, _ => exact ⟨_, rfl, rfl⟩)
  obtain ⟨itsUp, mvUp, kbUp⟩ := FunD.kbinds (ps := ["self", "many", "hold", "late", "begin"]) F_Up_DinitD 3 ["late", "begin"] [] (fun us its mv ws => us ++ ws) (by intro z; cases z) (by intro z; cases z) (fun _ h => (List.not_mem_nil h).elim) (fun r1 r2 _ r4 => r1.append r4) (by
      intro T D doc pm an cdv ct us its mv ws l1 l2 l3 l4
      match us, its, mv, ws, l1, l2, l3, l4 with
      | [_, _, _], [_], [], [_, _], _, _, _, _ => exact ⟨_, rfl, rfl⟩)
  obtain ⟨mvDown, kbDown⟩ := FunD.kbinds0 (ps := ["self", "many", "late", "begin"]) F_Down_DinitD 2 ["late", "begin"] [] (fun us mv ws => us ++ ws) (by intro z; cases z) (fun _ h => (List.not_mem_nil h).elim) (fun r1 _ r3 => r1.append r3) (by
      intro D doc pm an cdv ct us mv ws l1 l2 l3
      match us, mv, ws, l1, l2, l3 with
      | [_, _], [], [_, _], _, _, _ => exact rfl)
  obtain ⟨mvResample, kbResample⟩ := FunD.kbinds0 (ps := ["self", "up", "down", "numbers", "late", "begin"]) F_Resample_DinitD 4 ["late", "begin"] [] (fun us mv ws => us ++ ws) (by intro z; cases z) (fun _ h => (List.not_mem_nil h).elim) (fun r1 _ r3 => r1.append r3) (by
      intro D doc pm an cdv ct us mv ws l1 l2 l3
      match us, mv, ws, l1, l2, l3 with
      | [_, _, _, _], [], [_, _], _, _, _ => exact rfl)
  obtain ⟨dsFi, vFi, bFi⟩ := FunD.binds0 (ps := ["weave", "lates"]) F_first_queues 1 (by intro z; cases z) rfl (by
      intro D doc pm an cdv ct us ks l1 l2
      match us, ks, l1, l2 with
      | [_], [_], _, _ => exact ⟨_, _, _, _, _, _, rfl, rfl, rfl⟩)
  obtain ⟨mvFA, kbFA⟩ := FunD.kbinds0 (ps := ["weave", "lates"]) F_first_queues 0 ["lates", "weave"] [] (fun us mv ws => us ++ (ws.drop 1 ++ ws.take 1)) (by intro z; cases z) (fun _ h => (List.not_mem_nil h).elim) (fun r1 _ r3 => r1.append ((r3.drop 1).append (vals_take1 r3))) (by
      intro D doc pm an cdv ct us mv ws l1 l2 l3
      match us, mv, ws, l1, l2, l3 with
      | [], [], [_, _], _, _, _ => exact rfl)
  obtain ⟨mvFB, kbFB⟩ := FunD.kbinds0 (ps := ["weave", "lates"]) F_first_queues 1 ["lates"] [] (fun us mv ws => us ++ ws) (by intro z; cases z) (fun _ h => (List.not_mem_nil h).elim) (fun r1 _ r3 => r1.append r3) (by
      intro D doc pm an cdv ct us mv ws l1 l2 l3
      match us, mv, ws, l1, l2, l3 with
      | [_], [], [_], _, _, _ => exact rfl)
  refine ⟨d_law, fun s v => bL s [v] rfl, fun base _ _ => ?_⟩
  have T_Inlet : NodeC K (He.ga K "Inlet") := ⟨c_Inlet, n_Inlet_made, n_Inlet_late_by, n_Inlet_begin_at⟩
  have T_Outlet : NodeC K (He.ga K "Outlet") := ⟨c_Outlet, n_Outlet_made, n_Outlet_late_by, n_Outlet_begin_at⟩
  have T_Gain : NodeC K (He.ga K "Gain") := ⟨c_Gain, n_Gain_made, n_Gain_late_by, n_Gain_begin_at⟩
  have T_Mix : NodeC K (He.ga K "Mix") := ⟨c_Mix, n_Mix_made, n_Mix_late_by, n_Mix_begin_at⟩
  have T_Times : NodeC K (He.ga K "Times") := ⟨c_Times, n_Times_made, n_Times_late_by, n_Times_begin_at⟩
  have T_Clip : NodeC K (He.ga K "Clip") := ⟨c_Clip, n_Clip_made, n_Clip_late_by, n_Clip_begin_at⟩
  have T_Share : NodeC K (He.ga K "Share") := ⟨c_Share, n_Share_made, n_Share_late_by, n_Share_begin_at⟩
  have T_Choose : NodeC K (He.ga K "Choose") := ⟨c_Choose, n_Choose_made, n_Choose_late_by, n_Choose_begin_at⟩
  have T_Own : NodeC K (He.ga K "Own") := ⟨c_Own, n_Own_made, n_Own_late_by, n_Own_begin_at⟩
  have T_Taps : NodeC K (He.ga K "Taps") := ⟨c_Taps, n_Taps_made, n_Taps_late_by, n_Taps_begin_at⟩
  have T_Latch : NodeC K (He.ga K "Latch") := ⟨c_Latch, n_Latch_made, n_Latch_late_by, n_Latch_begin_at⟩
  have T_Count : NodeC K (He.ga K "Count") := ⟨c_Count, n_Count_made, n_Count_late_by, n_Count_begin_at⟩
  have T_Tape : NodeC K (He.ga K "Tape") := ⟨c_Tape, n_Tape_made, n_Tape_late_by, n_Tape_begin_at⟩
  have T_Up : NodeC K (He.ga K "Up") := ⟨c_Up, n_Up_made, n_Up_late_by, n_Up_begin_at⟩
  have T_Down : NodeC K (He.ga K "Down") := ⟨c_Down, n_Down_made, n_Down_late_by, n_Down_begin_at⟩
  have T_Resample : NodeC K (He.ga K "Resample") := ⟨c_Resample, n_Resample_made, n_Resample_late_by, n_Resample_begin_at⟩
  have cS : ClsS K (clK K) (He.ga K "Node") (He.ga K "Outlet") (He.ga K "Inlet") := by
    refine ⟨fun A => ?_, fun A => ?_, fun A => ?_, fun A => ?_⟩
    · cases A with
      | inlet => exact T_Inlet
      | outlet => exact T_Outlet
      | gain => exact T_Gain
      | mix => exact T_Mix
      | times => exact T_Times
      | clip => exact T_Clip
      | share => exact T_Share
      | choose => exact T_Choose
      | own => exact T_Own
      | taps => exact T_Taps
      | latch => exact T_Latch
      | count => exact T_Count
      | tape => exact T_Tape
      | up => exact T_Up
      | down => exact T_Down
      | resample => exact T_Resample
    · cases A with
      | inlet => exact insB_ok x_iN_Inlet
      | outlet => exact insB_ok x_iN_Outlet
      | gain => exact insB_ok x_iN_Gain
      | mix => exact insB_ok x_iN_Mix
      | times => exact insB_ok x_iN_Times
      | clip => exact insB_ok x_iN_Clip
      | share => exact insB_ok x_iN_Share
      | choose => exact insB_ok x_iN_Choose
      | own => exact insB_ok x_iN_Own
      | taps => exact insB_ok x_iN_Taps
      | latch => exact insB_ok x_iN_Latch
      | count => exact insB_ok x_iN_Count
      | tape => exact insB_ok x_iN_Tape
      | up => exact insB_ok x_iN_Up
      | down => exact insB_ok x_iN_Down
      | resample => exact insB_ok x_iN_Resample
    · cases A with
      | inlet => exact of_decide_eq_true x_kO_Inlet
      | outlet => exact of_decide_eq_true x_kO_Outlet
      | gain => exact of_decide_eq_true x_kO_Gain
      | mix => exact of_decide_eq_true x_kO_Mix
      | times => exact of_decide_eq_true x_kO_Times
      | clip => exact of_decide_eq_true x_kO_Clip
      | share => exact of_decide_eq_true x_kO_Share
      | choose => exact of_decide_eq_true x_kO_Choose
      | own => exact of_decide_eq_true x_kO_Own
      | taps => exact of_decide_eq_true x_kO_Taps
      | latch => exact of_decide_eq_true x_kO_Latch
      | count => exact of_decide_eq_true x_kO_Count
      | tape => exact of_decide_eq_true x_kO_Tape
      | up => exact of_decide_eq_true x_kO_Up
      | down => exact of_decide_eq_true x_kO_Down
      | resample => exact of_decide_eq_true x_kO_Resample
    · cases A with
      | inlet => exact of_decide_eq_true x_kI_Inlet
      | outlet => exact of_decide_eq_true x_kI_Outlet
      | gain => exact of_decide_eq_true x_kI_Gain
      | mix => exact of_decide_eq_true x_kI_Mix
      | times => exact of_decide_eq_true x_kI_Times
      | clip => exact of_decide_eq_true x_kI_Clip
      | share => exact of_decide_eq_true x_kI_Share
      | choose => exact of_decide_eq_true x_kI_Choose
      | own => exact of_decide_eq_true x_kI_Own
      | taps => exact of_decide_eq_true x_kI_Taps
      | latch => exact of_decide_eq_true x_kI_Latch
      | count => exact of_decide_eq_true x_kI_Count
      | tape => exact of_decide_eq_true x_kI_Tape
      | up => exact of_decide_eq_true x_kI_Up
      | down => exact of_decide_eq_true x_kI_Down
      | resample => exact of_decide_eq_true x_kI_Resample
  have G0 : FnOk P w K mg base CX0 1 _ d_is_whole ["thing"] (spWhole K) := ok_whole F_is_whole z_isinstance z_int z_bool
  have G1 : FnOk P w K mg base CX0 2 _ d_is_whole_within ["thing", "least", "most"] (spWithin K) := ok_within F_is_whole_within G0 g_is_whole F_is_whole.kp b_is_whole
  have G2 : FnOk P w K mg base CX0 1 _ d_need ["holds", "field"] spNeed := ok_need F_need
  have G3 : FnOk P w K mg base CX0 2 _ d_are_wholes ["things"] (spWholes K) := ok_wholes F_are_wholes G0 g_is_whole F_is_whole.kp b_is_whole z_all
  have G4 : FnOk P w K mg base CX0 3 _ d_is_list_of_wholes ["thing", "least", "most"] (spListOf K) := ok_listOf F_is_list_of_wholes G3 g_are_wholes F_are_wholes.kp b_are_wholes z_isinstance z_list z_len
  have G5 : FnOk P w K mg base CX0 1 _ d_is_truth ["thing"] spTruth := ok_truth F_is_truth
  have G6 : FnOk P w K mg base CX0 3 _ d_are_wholes_within ["things", "least", "most"] (spWholesIn K) := ok_wholesIn F_are_wholes_within G1 g_is_whole_within F_is_whole_within.kp b_is_whole_within z_all
  have NI_Inlet : FnOk P w K mg base CX0 3 _ d_Node_DinitD ["self", "arguments", "late", "begin"] (spNodeInit K (He.ga K "Inlet")) := ok_nodeInit F_Node_DinitD G2 g_need F_need.kp b_need G1 g_is_whole_within F_is_whole_within.kp b_is_whole_within z_MOST_LATE z_MOST_BEGIN T_Inlet
  have NI_Outlet : FnOk P w K mg base CX0 3 _ d_Node_DinitD ["self", "arguments", "late", "begin"] (spNodeInit K (He.ga K "Outlet")) := ok_nodeInit F_Node_DinitD G2 g_need F_need.kp b_need G1 g_is_whole_within F_is_whole_within.kp b_is_whole_within z_MOST_LATE z_MOST_BEGIN T_Outlet
  have NI_Gain : FnOk P w K mg base CX0 3 _ d_Node_DinitD ["self", "arguments", "late", "begin"] (spNodeInit K (He.ga K "Gain")) := ok_nodeInit F_Node_DinitD G2 g_need F_need.kp b_need G1 g_is_whole_within F_is_whole_within.kp b_is_whole_within z_MOST_LATE z_MOST_BEGIN T_Gain
  have NI_Mix : FnOk P w K mg base CX0 3 _ d_Node_DinitD ["self", "arguments", "late", "begin"] (spNodeInit K (He.ga K "Mix")) := ok_nodeInit F_Node_DinitD G2 g_need F_need.kp b_need G1 g_is_whole_within F_is_whole_within.kp b_is_whole_within z_MOST_LATE z_MOST_BEGIN T_Mix
  have NI_Times : FnOk P w K mg base CX0 3 _ d_Node_DinitD ["self", "arguments", "late", "begin"] (spNodeInit K (He.ga K "Times")) := ok_nodeInit F_Node_DinitD G2 g_need F_need.kp b_need G1 g_is_whole_within F_is_whole_within.kp b_is_whole_within z_MOST_LATE z_MOST_BEGIN T_Times
  have NI_Clip : FnOk P w K mg base CX0 3 _ d_Node_DinitD ["self", "arguments", "late", "begin"] (spNodeInit K (He.ga K "Clip")) := ok_nodeInit F_Node_DinitD G2 g_need F_need.kp b_need G1 g_is_whole_within F_is_whole_within.kp b_is_whole_within z_MOST_LATE z_MOST_BEGIN T_Clip
  have NI_Share : FnOk P w K mg base CX0 3 _ d_Node_DinitD ["self", "arguments", "late", "begin"] (spNodeInit K (He.ga K "Share")) := ok_nodeInit F_Node_DinitD G2 g_need F_need.kp b_need G1 g_is_whole_within F_is_whole_within.kp b_is_whole_within z_MOST_LATE z_MOST_BEGIN T_Share
  have NI_Choose : FnOk P w K mg base CX0 3 _ d_Node_DinitD ["self", "arguments", "late", "begin"] (spNodeInit K (He.ga K "Choose")) := ok_nodeInit F_Node_DinitD G2 g_need F_need.kp b_need G1 g_is_whole_within F_is_whole_within.kp b_is_whole_within z_MOST_LATE z_MOST_BEGIN T_Choose
  have NI_Own : FnOk P w K mg base CX0 3 _ d_Node_DinitD ["self", "arguments", "late", "begin"] (spNodeInit K (He.ga K "Own")) := ok_nodeInit F_Node_DinitD G2 g_need F_need.kp b_need G1 g_is_whole_within F_is_whole_within.kp b_is_whole_within z_MOST_LATE z_MOST_BEGIN T_Own
  have NI_Taps : FnOk P w K mg base CX0 3 _ d_Node_DinitD ["self", "arguments", "late", "begin"] (spNodeInit K (He.ga K "Taps")) := ok_nodeInit F_Node_DinitD G2 g_need F_need.kp b_need G1 g_is_whole_within F_is_whole_within.kp b_is_whole_within z_MOST_LATE z_MOST_BEGIN T_Taps
  have NI_Latch : FnOk P w K mg base CX0 3 _ d_Node_DinitD ["self", "arguments", "late", "begin"] (spNodeInit K (He.ga K "Latch")) := ok_nodeInit F_Node_DinitD G2 g_need F_need.kp b_need G1 g_is_whole_within F_is_whole_within.kp b_is_whole_within z_MOST_LATE z_MOST_BEGIN T_Latch
  have NI_Count : FnOk P w K mg base CX0 3 _ d_Node_DinitD ["self", "arguments", "late", "begin"] (spNodeInit K (He.ga K "Count")) := ok_nodeInit F_Node_DinitD G2 g_need F_need.kp b_need G1 g_is_whole_within F_is_whole_within.kp b_is_whole_within z_MOST_LATE z_MOST_BEGIN T_Count
  have NI_Tape : FnOk P w K mg base CX0 3 _ d_Node_DinitD ["self", "arguments", "late", "begin"] (spNodeInit K (He.ga K "Tape")) := ok_nodeInit F_Node_DinitD G2 g_need F_need.kp b_need G1 g_is_whole_within F_is_whole_within.kp b_is_whole_within z_MOST_LATE z_MOST_BEGIN T_Tape
  have NI_Up : FnOk P w K mg base CX0 3 _ d_Node_DinitD ["self", "arguments", "late", "begin"] (spNodeInit K (He.ga K "Up")) := ok_nodeInit F_Node_DinitD G2 g_need F_need.kp b_need G1 g_is_whole_within F_is_whole_within.kp b_is_whole_within z_MOST_LATE z_MOST_BEGIN T_Up
  have NI_Down : FnOk P w K mg base CX0 3 _ d_Node_DinitD ["self", "arguments", "late", "begin"] (spNodeInit K (He.ga K "Down")) := ok_nodeInit F_Node_DinitD G2 g_need F_need.kp b_need G1 g_is_whole_within F_is_whole_within.kp b_is_whole_within z_MOST_LATE z_MOST_BEGIN T_Down
  have NI_Resample : FnOk P w K mg base CX0 3 _ d_Node_DinitD ["self", "arguments", "late", "begin"] (spNodeInit K (He.ga K "Resample")) := ok_nodeInit F_Node_DinitD G2 g_need F_need.kp b_need G1 g_is_whole_within F_is_whole_within.kp b_is_whole_within z_MOST_LATE z_MOST_BEGIN T_Resample
  have I_Inlet : FnOk P w K mg base CX0 4 _ d_Inlet_DinitD ["self"] (spMk K .inlet (clK K .inlet) (He.ga K "_law_deed")) := ok_inletInit F_Inlet_DinitD NI_Inlet G_Node mB b_Node_DinitD T_Inlet 
  have I_Outlet : FnOk P w K mg base CX0 4 _ d_Outlet_DinitD ["self"] (spMk K .outlet (clK K .outlet) (He.ga K "_law_deed")) := ok_outletInit F_Outlet_DinitD NI_Outlet G_Node mB b_Node_DinitD T_Outlet 
  have I_Gain : FnOk P w K mg base CX0 4 _ d_Gain_DinitD ["self", "by", "late", "begin"] (spMk K .gain (clK K .gain) (He.ga K "_law_deed")) := ok_gainInit F_Gain_DinitD NI_Gain G_Node mB b_Node_DinitD T_Gain G2 g_need F_need.kp b_need G0 g_is_whole F_is_whole.kp b_is_whole n_Gain_by 
  have I_Mix : FnOk P w K mg base CX0 4 _ d_Mix_DinitD ["self", "many", "late", "begin"] (spMk K .mix (clK K .mix) (He.ga K "_law_deed")) := ok_mixInit F_Mix_DinitD NI_Mix G_Node mB b_Node_DinitD T_Mix G2 g_need F_need.kp b_need G1 g_is_whole_within F_is_whole_within.kp b_is_whole_within n_Mix_many z_MOST_MIXED
  have I_Times : FnOk P w K mg base CX0 4 _ d_Times_DinitD ["self", "late", "begin"] (spMk K .times (clK K .times) (He.ga K "_law_deed")) := ok_timesInit F_Times_DinitD NI_Times G_Node mB b_Node_DinitD T_Times 
  have I_Clip : FnOk P w K mg base CX0 4 _ d_Clip_DinitD ["self", "low", "high", "late", "begin"] (spMk K .clip (clK K .clip) (He.ga K "_law_deed")) := ok_clipInit F_Clip_DinitD NI_Clip G_Node mB b_Node_DinitD T_Clip G2 g_need F_need.kp b_need G0 g_is_whole F_is_whole.kp b_is_whole n_Clip_low n_Clip_high 
  have I_Share : FnOk P w K mg base CX0 4 _ d_Share_DinitD ["self", "by", "late", "begin"] (spMk K .share (clK K .share) (He.ga K "_law_deed")) := ok_shareInit F_Share_DinitD NI_Share G_Node mB b_Node_DinitD T_Share G2 g_need F_need.kp b_need G0 g_is_whole F_is_whole.kp b_is_whole n_Share_by 
  have I_Choose : FnOk P w K mg base CX0 4 _ d_Choose_DinitD ["self", "late", "begin"] (spMk K .choose (clK K .choose) (He.ga K "_law_deed")) := ok_chooseInit F_Choose_DinitD NI_Choose G_Node mB b_Node_DinitD T_Choose 
  have I_Own : FnOk P w K mg base CX0 4 _ d_Own_DinitD ["self", "deed", "takes", "gives", "first", "late", "begin"] (spMk K .own (clK K .own) (He.ga K "_law_deed")) := ok_ownInit F_Own_DinitD NI_Own G_Node mB b_Node_DinitD T_Own G2 g_need F_need.kp b_need G0 g_is_whole F_is_whole.kp b_is_whole G1 g_is_whole_within F_is_whole_within.kp b_is_whole_within G6 g_are_wholes_within F_are_wholes_within.kp b_are_wholes_within G3 g_are_wholes F_are_wholes.kp b_are_wholes n_Own_deed n_Own_taken n_Own_given n_Own_first z_MOST_OWN_SAMPLES z_MOST_OWN_PLACES z_isinstance z_tuple z_len
  have I_Taps : FnOk P w K mg base CX0 4 _ d_Taps_DinitD ["self", "numbers", "late", "begin"] (spMk K .taps (clK K .taps) (He.ga K "_law_deed")) := ok_tapsInit F_Taps_DinitD NI_Taps G_Node mB b_Node_DinitD T_Taps G2 g_need F_need.kp b_need G4 g_is_list_of_wholes F_is_list_of_wholes.kp b_is_list_of_wholes n_Taps_numbers z_MOST_TAPS z_list
  have I_Latch : FnOk P w K mg base CX0 4 _ d_Latch_DinitD ["self", "late", "begin"] (spMk K .latch (clK K .latch) (He.ga K "_law_deed")) := ok_latchInit F_Latch_DinitD NI_Latch G_Node mB b_Node_DinitD T_Latch 
  have I_Count : FnOk P w K mg base CX0 4 _ d_Count_DinitD ["self", "first", "step", "size", "late", "begin"] (spMk K .count (clK K .count) (He.ga K "_law_deed")) := ok_countInit F_Count_DinitD NI_Count G_Node mB b_Node_DinitD T_Count G2 g_need F_need.kp b_need G0 g_is_whole F_is_whole.kp b_is_whole n_Count_first n_Count_step n_Count_size 
  have I_Tape : FnOk P w K mg base CX0 4 _ d_Tape_DinitD ["self", "numbers", "again", "late", "begin"] (spMk K .tape (clK K .tape) (He.ga K "_law_deed")) := ok_tapeInit F_Tape_DinitD NI_Tape G_Node mB b_Node_DinitD T_Tape G2 g_need F_need.kp b_need G4 g_is_list_of_wholes F_is_list_of_wholes.kp b_is_list_of_wholes G5 g_is_truth F_is_truth.kp b_is_truth n_Tape_numbers n_Tape_again z_MOST_TAPED z_list
  have I_Up : FnOk P w K mg base CX0 4 _ d_Up_DinitD ["self", "many", "hold", "late", "begin"] (spMk K .up (clK K .up) (He.ga K "_law_deed")) := ok_upInit F_Up_DinitD NI_Up G_Node mB b_Node_DinitD T_Up G2 g_need F_need.kp b_need G1 g_is_whole_within F_is_whole_within.kp b_is_whole_within G5 g_is_truth F_is_truth.kp b_is_truth n_Up_many n_Up_hold z_MOST_RATE
  have I_Down : FnOk P w K mg base CX0 4 _ d_Down_DinitD ["self", "many", "late", "begin"] (spMk K .down (clK K .down) (He.ga K "_law_deed")) := ok_downInit F_Down_DinitD NI_Down G_Node mB b_Node_DinitD T_Down G2 g_need F_need.kp b_need G1 g_is_whole_within F_is_whole_within.kp b_is_whole_within n_Down_many z_MOST_RATE
  have I_Resample : FnOk P w K mg base CX0 4 _ d_Resample_DinitD ["self", "up", "down", "numbers", "late", "begin"] (spMk K .resample (clK K .resample) (He.ga K "_law_deed")) := ok_resampleInit F_Resample_DinitD NI_Resample G_Node mB b_Node_DinitD T_Resample G2 g_need F_need.kp b_need G1 g_is_whole_within F_is_whole_within.kp b_is_whole_within G4 g_is_list_of_wholes F_is_list_of_wholes.kp b_is_list_of_wholes n_Resample_numbers n_Resample_up n_Resample_down z_MOST_RATE z_MOST_TAPS z_list
  have tk_Inlet : FnOk P w K mg base CX0 1 _ d_Inlet_takes ["self"] (spTkS K (clK K) (He.ga K "_law_deed") .inlet) := ok_inletTakes F_Inlet_takes 
  have gv_Inlet : FnOk P w K mg base CX0 1 _ d_Inlet_gives ["self"] (spGvS K (clK K) (He.ga K "_law_deed") .inlet) := ok_inletGives F_Inlet_gives 
  have lt_Inlet : FnOk P w K mg base CX0 1 _ d_Inlet_late ["self"] (spLtS K (clK K) (He.ga K "_law_deed") .inlet) := ok_inletLate F_Inlet_late 
  have tk_Outlet : FnOk P w K mg base CX0 1 _ d_Outlet_takes ["self"] (spTkS K (clK K) (He.ga K "_law_deed") .outlet) := ok_outletTakes F_Outlet_takes 
  have gv_Outlet : FnOk P w K mg base CX0 1 _ d_Outlet_gives ["self"] (spGvS K (clK K) (He.ga K "_law_deed") .outlet) := ok_outletGives F_Outlet_gives 
  have lt_Outlet : FnOk P w K mg base CX0 1 _ d_Outlet_late ["self"] (spLtS K (clK K) (He.ga K "_law_deed") .outlet) := ok_outletLate F_Outlet_late 
  have tk_Gain : FnOk P w K mg base CX0 1 _ d_Gain_takes ["self"] (spTkS K (clK K) (He.ga K "_law_deed") .gain) := ok_gainTakes F_Gain_takes 
  have gv_Gain : FnOk P w K mg base CX0 1 _ d_Gain_gives ["self"] (spGvS K (clK K) (He.ga K "_law_deed") .gain) := ok_gainGives F_Gain_gives 
  have lt_Gain : FnOk P w K mg base CX0 1 _ d_Gain_late ["self"] (spLtS K (clK K) (He.ga K "_law_deed") .gain) := ok_gainLate F_Gain_late T_Gain
  have tk_Mix : FnOk P w K mg base CX0 1 _ d_Mix_takes ["self"] (spTkS K (clK K) (He.ga K "_law_deed") .mix) := ok_mixTakes F_Mix_takes T_Mix n_Mix_many
  have gv_Mix : FnOk P w K mg base CX0 1 _ d_Mix_gives ["self"] (spGvS K (clK K) (He.ga K "_law_deed") .mix) := ok_mixGives F_Mix_gives 
  have lt_Mix : FnOk P w K mg base CX0 1 _ d_Mix_late ["self"] (spLtS K (clK K) (He.ga K "_law_deed") .mix) := ok_mixLate F_Mix_late T_Mix
  have tk_Times : FnOk P w K mg base CX0 1 _ d_Times_takes ["self"] (spTkS K (clK K) (He.ga K "_law_deed") .times) := ok_timesTakes F_Times_takes 
  have gv_Times : FnOk P w K mg base CX0 1 _ d_Times_gives ["self"] (spGvS K (clK K) (He.ga K "_law_deed") .times) := ok_timesGives F_Times_gives 
  have lt_Times : FnOk P w K mg base CX0 1 _ d_Times_late ["self"] (spLtS K (clK K) (He.ga K "_law_deed") .times) := ok_timesLate F_Times_late T_Times
  have tk_Clip : FnOk P w K mg base CX0 1 _ d_Clip_takes ["self"] (spTkS K (clK K) (He.ga K "_law_deed") .clip) := ok_clipTakes F_Clip_takes 
  have gv_Clip : FnOk P w K mg base CX0 1 _ d_Clip_gives ["self"] (spGvS K (clK K) (He.ga K "_law_deed") .clip) := ok_clipGives F_Clip_gives 
  have lt_Clip : FnOk P w K mg base CX0 1 _ d_Clip_late ["self"] (spLtS K (clK K) (He.ga K "_law_deed") .clip) := ok_clipLate F_Clip_late T_Clip
  have tk_Share : FnOk P w K mg base CX0 1 _ d_Share_takes ["self"] (spTkS K (clK K) (He.ga K "_law_deed") .share) := ok_shareTakes F_Share_takes 
  have gv_Share : FnOk P w K mg base CX0 1 _ d_Share_gives ["self"] (spGvS K (clK K) (He.ga K "_law_deed") .share) := ok_shareGives F_Share_gives 
  have lt_Share : FnOk P w K mg base CX0 1 _ d_Share_late ["self"] (spLtS K (clK K) (He.ga K "_law_deed") .share) := ok_shareLate F_Share_late T_Share
  have tk_Choose : FnOk P w K mg base CX0 1 _ d_Choose_takes ["self"] (spTkS K (clK K) (He.ga K "_law_deed") .choose) := ok_chooseTakes F_Choose_takes 
  have gv_Choose : FnOk P w K mg base CX0 1 _ d_Choose_gives ["self"] (spGvS K (clK K) (He.ga K "_law_deed") .choose) := ok_chooseGives F_Choose_gives 
  have lt_Choose : FnOk P w K mg base CX0 1 _ d_Choose_late ["self"] (spLtS K (clK K) (He.ga K "_law_deed") .choose) := ok_chooseLate F_Choose_late T_Choose
  have tk_Own : FnOk P w K mg base CX0 1 _ d_Own_takes ["self"] (spTkS K (clK K) (He.ga K "_law_deed") .own) := ok_ownTakes F_Own_takes T_Own n_Own_taken
  have gv_Own : FnOk P w K mg base CX0 1 _ d_Own_gives ["self"] (spGvS K (clK K) (He.ga K "_law_deed") .own) := ok_ownGives F_Own_gives T_Own n_Own_given
  have lt_Own : FnOk P w K mg base CX0 1 _ d_Own_late ["self"] (spLtS K (clK K) (He.ga K "_law_deed") .own) := ok_ownLate F_Own_late T_Own
  have tk_Taps : FnOk P w K mg base CX0 1 _ d_Taps_takes ["self"] (spTkS K (clK K) (He.ga K "_law_deed") .taps) := ok_tapsTakes F_Taps_takes 
  have gv_Taps : FnOk P w K mg base CX0 1 _ d_Taps_gives ["self"] (spGvS K (clK K) (He.ga K "_law_deed") .taps) := ok_tapsGives F_Taps_gives 
  have lt_Taps : FnOk P w K mg base CX0 1 _ d_Taps_late ["self"] (spLtS K (clK K) (He.ga K "_law_deed") .taps) := ok_tapsLate F_Taps_late T_Taps
  have tk_Latch : FnOk P w K mg base CX0 1 _ d_Latch_takes ["self"] (spTkS K (clK K) (He.ga K "_law_deed") .latch) := ok_latchTakes F_Latch_takes 
  have gv_Latch : FnOk P w K mg base CX0 1 _ d_Latch_gives ["self"] (spGvS K (clK K) (He.ga K "_law_deed") .latch) := ok_latchGives F_Latch_gives 
  have lt_Latch : FnOk P w K mg base CX0 1 _ d_Latch_late ["self"] (spLtS K (clK K) (He.ga K "_law_deed") .latch) := ok_latchLate F_Latch_late T_Latch
  have tk_Count : FnOk P w K mg base CX0 1 _ d_Count_takes ["self"] (spTkS K (clK K) (He.ga K "_law_deed") .count) := ok_countTakes F_Count_takes 
  have gv_Count : FnOk P w K mg base CX0 1 _ d_Count_gives ["self"] (spGvS K (clK K) (He.ga K "_law_deed") .count) := ok_countGives F_Count_gives 
  have lt_Count : FnOk P w K mg base CX0 1 _ d_Count_late ["self"] (spLtS K (clK K) (He.ga K "_law_deed") .count) := ok_countLate F_Count_late T_Count
  have tk_Tape : FnOk P w K mg base CX0 1 _ d_Tape_takes ["self"] (spTkS K (clK K) (He.ga K "_law_deed") .tape) := ok_tapeTakes F_Tape_takes 
  have gv_Tape : FnOk P w K mg base CX0 1 _ d_Tape_gives ["self"] (spGvS K (clK K) (He.ga K "_law_deed") .tape) := ok_tapeGives F_Tape_gives 
  have lt_Tape : FnOk P w K mg base CX0 1 _ d_Tape_late ["self"] (spLtS K (clK K) (He.ga K "_law_deed") .tape) := ok_tapeLate F_Tape_late T_Tape
  have tk_Up : FnOk P w K mg base CX0 1 _ d_Up_takes ["self"] (spTkS K (clK K) (He.ga K "_law_deed") .up) := ok_upTakes F_Up_takes 
  have gv_Up : FnOk P w K mg base CX0 1 _ d_Up_gives ["self"] (spGvS K (clK K) (He.ga K "_law_deed") .up) := ok_upGives F_Up_gives T_Up n_Up_many
  have lt_Up : FnOk P w K mg base CX0 1 _ d_Up_late ["self"] (spLtS K (clK K) (He.ga K "_law_deed") .up) := ok_upLate F_Up_late T_Up
  have tk_Down : FnOk P w K mg base CX0 1 _ d_Down_takes ["self"] (spTkS K (clK K) (He.ga K "_law_deed") .down) := ok_downTakes F_Down_takes T_Down n_Down_many
  have gv_Down : FnOk P w K mg base CX0 1 _ d_Down_gives ["self"] (spGvS K (clK K) (He.ga K "_law_deed") .down) := ok_downGives F_Down_gives 
  have lt_Down : FnOk P w K mg base CX0 1 _ d_Down_late ["self"] (spLtS K (clK K) (He.ga K "_law_deed") .down) := ok_downLate F_Down_late T_Down
  have tk_Resample : FnOk P w K mg base CX0 1 _ d_Resample_takes ["self"] (spTkS K (clK K) (He.ga K "_law_deed") .resample) := ok_resampleTakes F_Resample_takes T_Resample n_Resample_down
  have gv_Resample : FnOk P w K mg base CX0 1 _ d_Resample_gives ["self"] (spGvS K (clK K) (He.ga K "_law_deed") .resample) := ok_resampleGives F_Resample_gives T_Resample n_Resample_up
  have lt_Resample : FnOk P w K mg base CX0 1 _ d_Resample_late ["self"] (spLtS K (clK K) (He.ga K "_law_deed") .resample) := ok_resampleLate F_Resample_late T_Resample
  have hT : ∀ A, A ∈ (sorts (clK K) (He.ga K "_law_deed") cS).As → MethC P w K mg base 1 "takes" ["self"] (spTk (sorts (clK K) (He.ga K "_law_deed") cS) A) ((sorts (clK K) (He.ga K "_law_deed") cS).cl A) := fun A _ => by
    cases (A : Srt) with
    | inlet => exact ⟨_, _, c_Inlet, m_Inlet_takes, tk_Inlet, b_Inlet_takes⟩
    | outlet => exact ⟨_, _, c_Outlet, m_Outlet_takes, tk_Outlet, b_Outlet_takes⟩
    | gain => exact ⟨_, _, c_Gain, m_Gain_takes, tk_Gain, b_Gain_takes⟩
    | mix => exact ⟨_, _, c_Mix, m_Mix_takes, tk_Mix, b_Mix_takes⟩
    | times => exact ⟨_, _, c_Times, m_Times_takes, tk_Times, b_Times_takes⟩
    | clip => exact ⟨_, _, c_Clip, m_Clip_takes, tk_Clip, b_Clip_takes⟩
    | share => exact ⟨_, _, c_Share, m_Share_takes, tk_Share, b_Share_takes⟩
    | choose => exact ⟨_, _, c_Choose, m_Choose_takes, tk_Choose, b_Choose_takes⟩
    | own => exact ⟨_, _, c_Own, m_Own_takes, tk_Own, b_Own_takes⟩
    | taps => exact ⟨_, _, c_Taps, m_Taps_takes, tk_Taps, b_Taps_takes⟩
    | latch => exact ⟨_, _, c_Latch, m_Latch_takes, tk_Latch, b_Latch_takes⟩
    | count => exact ⟨_, _, c_Count, m_Count_takes, tk_Count, b_Count_takes⟩
    | tape => exact ⟨_, _, c_Tape, m_Tape_takes, tk_Tape, b_Tape_takes⟩
    | up => exact ⟨_, _, c_Up, m_Up_takes, tk_Up, b_Up_takes⟩
    | down => exact ⟨_, _, c_Down, m_Down_takes, tk_Down, b_Down_takes⟩
    | resample => exact ⟨_, _, c_Resample, m_Resample_takes, tk_Resample, b_Resample_takes⟩
  have hT2 : ∀ A, A ∈ allS → MethC P w K mg base 1 "takes" ["self"] (spTkS K (clK K) (He.ga K "_law_deed") A) (clK K A) := fun A _ => by
    cases (A : Srt) with
    | inlet => exact ⟨_, _, c_Inlet, m_Inlet_takes, tk_Inlet, b_Inlet_takes⟩
    | outlet => exact ⟨_, _, c_Outlet, m_Outlet_takes, tk_Outlet, b_Outlet_takes⟩
    | gain => exact ⟨_, _, c_Gain, m_Gain_takes, tk_Gain, b_Gain_takes⟩
    | mix => exact ⟨_, _, c_Mix, m_Mix_takes, tk_Mix, b_Mix_takes⟩
    | times => exact ⟨_, _, c_Times, m_Times_takes, tk_Times, b_Times_takes⟩
    | clip => exact ⟨_, _, c_Clip, m_Clip_takes, tk_Clip, b_Clip_takes⟩
    | share => exact ⟨_, _, c_Share, m_Share_takes, tk_Share, b_Share_takes⟩
    | choose => exact ⟨_, _, c_Choose, m_Choose_takes, tk_Choose, b_Choose_takes⟩
    | own => exact ⟨_, _, c_Own, m_Own_takes, tk_Own, b_Own_takes⟩
    | taps => exact ⟨_, _, c_Taps, m_Taps_takes, tk_Taps, b_Taps_takes⟩
    | latch => exact ⟨_, _, c_Latch, m_Latch_takes, tk_Latch, b_Latch_takes⟩
    | count => exact ⟨_, _, c_Count, m_Count_takes, tk_Count, b_Count_takes⟩
    | tape => exact ⟨_, _, c_Tape, m_Tape_takes, tk_Tape, b_Tape_takes⟩
    | up => exact ⟨_, _, c_Up, m_Up_takes, tk_Up, b_Up_takes⟩
    | down => exact ⟨_, _, c_Down, m_Down_takes, tk_Down, b_Down_takes⟩
    | resample => exact ⟨_, _, c_Resample, m_Resample_takes, tk_Resample, b_Resample_takes⟩
  have hG : ∀ A, A ∈ allS → MethC P w K mg base 1 "gives" ["self"] (spGvS K (clK K) (He.ga K "_law_deed") A) (clK K A) := fun A _ => by
    cases (A : Srt) with
    | inlet => exact ⟨_, _, c_Inlet, m_Inlet_gives, gv_Inlet, b_Inlet_gives⟩
    | outlet => exact ⟨_, _, c_Outlet, m_Outlet_gives, gv_Outlet, b_Outlet_gives⟩
    | gain => exact ⟨_, _, c_Gain, m_Gain_gives, gv_Gain, b_Gain_gives⟩
    | mix => exact ⟨_, _, c_Mix, m_Mix_gives, gv_Mix, b_Mix_gives⟩
    | times => exact ⟨_, _, c_Times, m_Times_gives, gv_Times, b_Times_gives⟩
    | clip => exact ⟨_, _, c_Clip, m_Clip_gives, gv_Clip, b_Clip_gives⟩
    | share => exact ⟨_, _, c_Share, m_Share_gives, gv_Share, b_Share_gives⟩
    | choose => exact ⟨_, _, c_Choose, m_Choose_gives, gv_Choose, b_Choose_gives⟩
    | own => exact ⟨_, _, c_Own, m_Own_gives, gv_Own, b_Own_gives⟩
    | taps => exact ⟨_, _, c_Taps, m_Taps_gives, gv_Taps, b_Taps_gives⟩
    | latch => exact ⟨_, _, c_Latch, m_Latch_gives, gv_Latch, b_Latch_gives⟩
    | count => exact ⟨_, _, c_Count, m_Count_gives, gv_Count, b_Count_gives⟩
    | tape => exact ⟨_, _, c_Tape, m_Tape_gives, gv_Tape, b_Tape_gives⟩
    | up => exact ⟨_, _, c_Up, m_Up_gives, gv_Up, b_Up_gives⟩
    | down => exact ⟨_, _, c_Down, m_Down_gives, gv_Down, b_Down_gives⟩
    | resample => exact ⟨_, _, c_Resample, m_Resample_gives, gv_Resample, b_Resample_gives⟩
  have hL : ∀ A, A ∈ allS → MethC P w K mg base 1 "late" ["self"] (spLtS K (clK K) (He.ga K "_law_deed") A) (clK K A) := fun A _ => by
    cases (A : Srt) with
    | inlet => exact ⟨_, _, c_Inlet, m_Inlet_late, lt_Inlet, b_Inlet_late⟩
    | outlet => exact ⟨_, _, c_Outlet, m_Outlet_late, lt_Outlet, b_Outlet_late⟩
    | gain => exact ⟨_, _, c_Gain, m_Gain_late, lt_Gain, b_Gain_late⟩
    | mix => exact ⟨_, _, c_Mix, m_Mix_late, lt_Mix, b_Mix_late⟩
    | times => exact ⟨_, _, c_Times, m_Times_late, lt_Times, b_Times_late⟩
    | clip => exact ⟨_, _, c_Clip, m_Clip_late, lt_Clip, b_Clip_late⟩
    | share => exact ⟨_, _, c_Share, m_Share_late, lt_Share, b_Share_late⟩
    | choose => exact ⟨_, _, c_Choose, m_Choose_late, lt_Choose, b_Choose_late⟩
    | own => exact ⟨_, _, c_Own, m_Own_late, lt_Own, b_Own_late⟩
    | taps => exact ⟨_, _, c_Taps, m_Taps_late, lt_Taps, b_Taps_late⟩
    | latch => exact ⟨_, _, c_Latch, m_Latch_late, lt_Latch, b_Latch_late⟩
    | count => exact ⟨_, _, c_Count, m_Count_late, lt_Count, b_Count_late⟩
    | tape => exact ⟨_, _, c_Tape, m_Tape_late, lt_Tape, b_Tape_late⟩
    | up => exact ⟨_, _, c_Up, m_Up_late, lt_Up, b_Up_late⟩
    | down => exact ⟨_, _, c_Down, m_Down_late, lt_Down, b_Down_late⟩
    | resample => exact ⟨_, _, c_Resample, m_Resample_late, lt_Resample, b_Resample_late⟩
  have TW : WvC K (He.ga K "Weave") := ⟨c_Weave, n_Weave_named, n_Weave_leading, n_Weave_laid, n_Weave_leaving⟩
  have Gnm := ok_isName (P := P) (w := w) (mg := mg) (base := base) F_is_name z_LETTERS z_LONGEST_NAME z_isinstance z_str z_len z_all
  have Gon := ok_oneOf (P := P) (w := w) (mg := mg) (base := base) F_is_one_of z_isinstance z_str
  have Gna := ok_named (P := P) (w := w) (base := base) (sorts (clK K) (He.ga K "_law_deed") cS) F_nodes_by_name Gnm g_is_name F_is_name.kp b_is_name G_Node z_isinstance
  have Gck := ok_check (sorts (clK K) (He.ga K "_law_deed") cS) F_check_wire Gon g_is_one_of F_is_one_of.kp b_is_one_of G1 g_is_whole_within F_is_whole_within.kp b_is_whole_within hT G_Outlet z_MOST_DELAY z_isinstance z_len
  have Gle := ok_lead (sorts (clK K) (He.ga K "_law_deed") cS) F_wires_by_goal Gck g_check_wire F_check_wire.kp b_check_wire hT z_enumerate z_len
  have Gba := ok_bare (P := P) (w := w) (mg := mg) (base := base) F_refuse_bare z_enumerate
  have Glv := ok_leav (P := P) (w := w) (mg := mg) (base := base) F_wires_by_source z_enumerate
  have Gre := ok_reached (P := P) (w := w) (mg := mg) (base := base) F_all_reached z_list
  have Gun := ok_unfed (sorts (clK K) (He.ga K "_law_deed") cS) F_refuse_unfed Gre g_all_reached F_all_reached.kp b_all_reached G_Inlet z_isinstance
  have Gwi := ok_wvInit (sorts (clK K) (He.ga K "_law_deed") cS) F_Weave_DinitD Gna g_nodes_by_name F_nodes_by_name.kp b_nodes_by_name Gle g_wires_by_goal F_wires_by_goal.kp b_wires_by_goal Gba g_refuse_bare F_refuse_bare.kp b_refuse_bare Glv g_wires_by_source F_wires_by_source.kp b_wires_by_source Gun g_refuse_unfed F_refuse_unfed.kp b_refuse_unfed z_MOST_NODES z_MOST_WIRES z_len c_Weave n_Weave_named n_Weave_leading n_Weave_laid n_Weave_leaving
  have gw_wires := ok_wvWires (P := P) (w := w) (mg := mg) (base := base) (sorts (clK K) (He.ga K "_law_deed") cS) F_Weave_wires TW z_list
  have gw_check_known := ok_wvKnown (sorts (clK K) (He.ga K "_law_deed") cS) F_Weave_check_known TW Gon g_is_one_of F_is_one_of.kp b_is_one_of
  have gw_node := ok_wvNode (sorts (clK K) (He.ga K "_law_deed") cS) F_Weave_node TW c_Weave m_Weave_check_known gw_check_known b_Weave_check_known
  have gw_pairs := ok_wvPairs (P := P) (w := w) (mg := mg) (base := base) (sorts (clK K) (He.ga K "_law_deed") cS) F_Weave_pairs TW
  have gw_put := ok_put cS F_Weave_put TW c_Weave m_Weave_node gw_node b_Weave_node hT2 hG mk_Weave Gwi G_Weave b_Weave_DinitD G_Node z_isinstance
  have gw_delayed := ok_delayed (sorts (clK K) (He.ga K "_law_deed") cS) F_Weave_delayed TW c_Weave m_Weave_pairs gw_pairs b_Weave_pairs mk_Weave Gwi G_Weave b_Weave_DinitD z_zip
  have Gdi := ok_digit (P := P) (w := w) (mg := mg) (base := base) F__law_digit
  have Gpo := ok_pot (P := P) (w := w) (mg := mg) (base := base) F__law_pot z_max z_len z_abs
  have Gmi := ok_mixed (P := P) (w := w) (mg := mg) (base := base) F__law_mixed Gdi g__law_digit F__law_digit.kp b__law_digit z_len z_list z_range
  have Gnn := ok_names F__law_names Gdi g__law_digit F__law_digit.kp b__law_digit z_range
  have Gin := ok_inlet F__law_inlet Gdi g__law_digit F__law_digit.kp b__law_digit
  have Gsh := ok_shape F__law_shape Gdi g__law_digit F__law_digit.kp b__law_digit z_enumerate z_range z_len
  have Gmf := ok_may (P := P) (w := w) (mg := mg) (base := base) F__law_may_feed
  have Gfe := ok_feed F__law_feed Gdi g__law_digit F__law_digit.kp b__law_digit Gmf g__law_may_feed F__law_may_feed.kp b__law_may_feed z_enumerate z_range z_len
  have Gss := ok_shapes F__law_shapes Gdi g__law_digit F__law_digit.kp b__law_digit Gin g__law_inlet F__law_inlet.kp b__law_inlet Gsh g__law_shape F__law_shape.kp b__law_shape Gfe g__law_feed F__law_feed.kp b__law_feed z_range z_len z_min
  have Gsl := ok_spoil F__law_spoil Gdi g__law_digit F__law_digit.kp b__law_digit z_len
  have Gso := ok_sorts (P := P) (w := w) (mg := mg) (base := base) F__law_sorts z_int z_max z_len
  have Gke := ok_kept (cl := clK K) F__law_kept Gdi g__law_digit F__law_digit.kp b__law_digit mk_Clip I_Clip G_Clip kbClip mk_Share I_Share G_Share kbShare mk_Taps I_Taps G_Taps kbTaps mk_Count I_Count G_Count kbCount mk_Tape I_Tape G_Tape kbTape mk_Latch I_Latch G_Latch kbLatch mk_Times I_Times G_Times kbTimes mk_Choose I_Choose G_Choose kbChoose
  have Gno := ok_node_ F__law_node Gdi g__law_digit F__law_digit.kp b__law_digit Gso g__law_sorts F__law_sorts.kp b__law_sorts Gke g__law_kept F__law_kept.kp b__law_kept G__law_deed z_len z_tuple mk_Inlet I_Inlet G_Inlet b_Inlet_DinitD mk_Outlet I_Outlet G_Outlet b_Outlet_DinitD mk_Own I_Own G_Own kbOwn mk_Resample I_Resample G_Resample kbResample mk_Up I_Up G_Up kbUp mk_Down I_Down G_Down kbDown mk_Gain I_Gain G_Gain kbGain mk_Mix I_Mix G_Mix kbMix
  have Gla := ok_lates F__law_lates Gdi g__law_digit F__law_digit.kp b__law_digit z_enumerate z_int z_sum
  have Gwr := ok_wires F__law_wires Gmi g__law_mixed F__law_mixed.kp b__law_mixed z_enumerate z_len
  have Gdy := ok_delays F__law_delays Gdi g__law_digit F__law_digit.kp b__law_digit z_range z_int
  have Gns := ok_nodes F__law_nodes Gmi g__law_mixed F__law_mixed.kp b__law_mixed Gno g__law_node F__law_node.kp b__law_node z_zip
  have Gfi := ok_first cS F_first_queues c_Weave m_Weave_wires gw_wires b_Weave_wires m_Weave_node gw_node b_Weave_node hL hG
  have Gdu := ok_due (P := P) (w := w) (mg := mg) (base := base) F__law_due z_int
  have Gto := ok_told cS F__law_told Gfi g_first_queues F_first_queues.kp bFi vFi kbFA kbFB
  have Gri := ok_right cS F__law_right Gto g__law_told F__law_told.kp b__law_told Gdu g__law_due F__law_due.kp b__law_due z_repr z_isinstance z_list
  have Gpr := ok_putRight cS F__law_put_right c_Weave Gdi g__law_digit F__law_digit.kp b__law_digit Gno g__law_node F__law_node.kp b__law_node Gri g__law_right F__law_right.kp b__law_right m_Weave_put gw_put b_Weave_put m_Weave_wires gw_wires b_Weave_wires z_enumerate z_len z_dict
  exact ok_law cS F_law c_Weave Gpo g__law_pot F__law_pot.kp b__law_pot Gss g__law_shapes F__law_shapes.kp b__law_shapes Gdi g__law_digit F__law_digit.kp b__law_digit Gsl g__law_spoil F__law_spoil.kp b__law_spoil Gla g__law_lates F__law_lates.kp b__law_lates Gnn g__law_names F__law_names.kp b__law_names Gwr g__law_wires F__law_wires.kp b__law_wires Gdy g__law_delays F__law_delays.kp b__law_delays Gns g__law_nodes F__law_nodes.kp b__law_nodes Gri g__law_right F__law_right.kp b__law_right Gpr g__law_put_right F__law_put_right.kp b__law_put_right mk_Weave Gwi G_Weave b_Weave_DinitD m_Weave_delayed gw_delayed b_Weave_delayed Gfi g_first_queues F_first_queues.kp kbFB z_range z_max z_min z_len z_dict z_zip z_all
end Sw
open PySem PySem.W PySem.Calls PyProof.Rows
theorem PySem.Challenge.cw_sampleweave_k33_first_queues_holds : PySem.Challenge.rw_sampleweave_k33_first_queues.Holds := by
  w_on; o_law
  refine HandSHeadRun.head_any (r := OpenLaw.row PySem.Challenge.rw_sampleweave_k33_first_queues) (q := view (OpenLaw.row PySem.Challenge.rw_sampleweave_k33_first_queues).prog [92]) (H := Sw.hk) (ob := Sw.ob) (M := 30000) (loose := Sw.loose) (d := HandSHeadRun.topDef (OpenLaw.row PySem.Challenge.rw_sampleweave_k33_first_queues).prog 92) (kwd := []) Sw.ob_eq
    (by kernel_rfl) (fun s => by kernel_rfl) Sw.run (by kernel_rfl) (by kernel_rfl) (by kernel_rfl) (by rfl) (by first | assumption | decide +kernel) (by decide +kernel) ⟨rfl, rfl, rfl, rfl, rfl, by decide +kernel⟩ ?hw ?hc
  case hw => w_witness2
  case hc =>
    refine L2.walk_goes (l := PySem.Challenge.rw_sampleweave_k33_first_queues) (n := 63) (k := 9) (x := "_law_script") (CX := L2.CX0) rfl (by decide) (by kernel_rfl) ⟨rfl, by decide, by decide⟩ ?F (fun _ _ _ _ z => z)
    intro w mg fa h Y G hmg0
    obtain ⟨K, KX, cx, c⟩ := Y
    have hmg : mg ("law" : PySem.Str) = some (.ref fa) := by
      have e : (HandSHeadRun.topDef (OpenLaw.row PySem.Challenge.rw_sampleweave_k33_first_queues).prog 92).name = ("law" : PySem.Str) := by kernel_rfl
      rw [← e]
      exact hmg0
    obtain ⟨fd, hb, hF⟩ := Sw.facts (P := (PySem.Challenge.rw_sampleweave_k33_first_queues).prog) (w := w) KX G hmg cx c
    exact ⟨K, fd, Sw.spLaw K, KX, hb, fun H a ns hl _ hS => ⟨a, ns, rfl, hS, hl, fun _ => rfl⟩, hF⟩
