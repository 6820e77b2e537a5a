import PyProof.Rows.All
import Wide.All
import OpenK.AllK
import Wide.FinOn
import HandS.Base
import HandS.Call
import HandS.List
import HandS.Comp
import HandS.Ends
import HandS.Iter
import HandS.Words
import HandS.WordsList
import HandS.Wide
import HandS.Conv
import PyProof.ReprRoads
import KE.GoesEnumKw
import HandS.IsInst
import HandS.Zip
import HandS.SortInts
import HandS.RaiseMore
import KE.DataEq
import HandS.Evl
import HandS.Style
import PyProof.Rows.SeqMore
import HandS.Gcd
import HandS.Exc
import HandS.TryOnly
import HandS.ExcOwn
import HandS.ExcInit
import HandS.ExcIs
import HandS.ExcField
import HandS.WordsExc
import KE.KExcSuper
import KE.KExcIs
import HandS.CallSlots
import HandS.Rev
import KE.DataAny
import HandS.TupMul
import HandS.Property
import OpenK.KMeth
import OpenK.KOps
import HandS.Text
import HandS.Codes
import HandS.StrMore
import HandS.WideBits
import HandS.FStr
import HandS.More
import HandS.TryMany
import HandS.Walk
import HandS.Deep
import PySem.Challenge.RW_backafter_k56_whole_rule_texts_spoilt_ag
set_option Elab.async false
set_option linter.all false
set_option maxRecDepth 100000
set_option maxHeartbeats 4000000
namespace Bk
open PySem PySem.Spec PyProof.Rows L2

/-! ### room, and nothing of repr on the stack -/
structure Rm (k : Nat) (A : Around) : Prop where
  rm : Room k A
  gd : A.guards = some []
theorem Rm.mono {j k : Nat} {A : Around} (r : Rm k A) (h : j ≤ k) : Rm j A := ⟨r.rm.mono h, r.gd⟩
theorem Rm.deep {k : Nat} {A : Around} (r : Rm (k + 1) A) (env : Env) : Rm k (A.deeper env) := ⟨r.rm.deeper env, r.gd⟩

/-- a def's promise where the stack holds no repr -/
structure FnG (P : Program) (w : World) (K : PySem.W.Frag) (mg : Str → Option Value) (base : Heap) (CX : CXT) (k : Nat) (f : Addr) (fd : FuncData) (ps : List Str) (sp : Sp) : Prop where
  len : ∀ vs H Q E, sp vs H Q E → vs.length = ps.length
  run : ∀ (A : Around) (out : List Env) (s : Shared) (H : Hp) (args : Args) (us : List Value) (vs : List V) (Q : VK) (E : XK), Rm k A →
    Env0 P w K mg base A out s H → BindsTo s fd args (ps.zip us) → Vals vs us → sp vs H Q E → codeAny (model P w) A (.call (.ref f) args) (CR CX out P w H s Q E) s

section
variable {P : Program} {w : World} {K : PySem.W.Frag} {mg : Str → Option Value} {base : Heap} {CX : CXT} {k : Nat} {f : Addr} {fd : FuncData} {ps : List Str} {sp : Sp}
theorem FnG.mono {j : Nat} (F : FnG P w K mg base CX j f fd ps sp) (h : j ≤ k) : FnG P w K mg base CX k f fd ps sp :=
  ⟨F.len, fun A o s H a us vs Q E r => F.run A o s H a us vs Q E (r.mono h)⟩
theorem FnG.imp {sp' : Sp} (F : FnG P w K mg base CX k f fd ps sp) (h : ∀ vs H Q E, sp' vs H Q E → sp vs H Q E) : FnG P w K mg base CX k f fd ps sp' :=
  ⟨fun vs H Q E q => F.len vs H Q E (h _ _ _ _ q), fun A o s H a us vs Q E r e b v q => F.run A o s H a us vs Q E r e b v (h _ _ _ _ q)⟩

/-- the body, for any wish about exceptions -/
theorem bodyG {x qual : Str} {st : Stmt} {N : List Str} (F : Fun K x qual st f fd) (S : FnScope N ps (defScope st)) (len : ∀ vs H Q E, sp vs H Q E → vs.length = ps.length)
    (hb : ∀ (cdv : Value) (A : Around) (out : List Env) (s : Shared) (H : Hp) (vs : List V) (Q : VK) (E : XK),
      Rm k (A.deeper (envOfC qual (defScope st) s.heap.objs.size f cdv)) → sp vs H Q E →
      ∃ t, PSs (cxOf CX P w K mg base N qual (defScope st) f cdv A out s H E) (defBody st) t ∧ t { nx := fun _ H' => Q .non H', rt := Q } (start N vs) H) :
    FnG P w K mg base CX (k + 1) f fd ps sp := by
  obtain ⟨oc, od, kV, doc, pm, an, cdv, ct, osl, rfl, lk, hcd⟩ := F.ex
  refine ⟨len, ?_⟩
  intro A out s H args us vs Q E room e0 hbd rv hsp
  have hlen := len _ _ _ _ hsp
  have inK : K.In s.heap := e0.mod.kin.keeps fun b o e => (e0.bs b o e).1
  have noL : s.heap.NoLimit := e0.mod.nolimit.keeps fun b o e => (e0.bs b o e).1
  have kinds : ∀ y ∈ ps.zip us, (defScope st).names.lookup y.1 = some .local ∨
      ((defScope st).names.lookup y.1 = some .cell ∧ ((cellsFrom (s.heap.objs.size + 1) (defScope st).names []).lookup y.1).isSome = true) := by
    intro ⟨n, v⟩ hy
    rcases S.par n (List.of_mem_zip hy).1 with q | q
    · left
      exact q
    · right
      exact ⟨q, PySem.W.cellsFrom_some _ _ _ (.inl q)⟩
  refine codeAny_call_function room.rm.depth (inK _ _ lk) rfl S.co S.gen rfl (PySem.W.codeRec_of inK hcd) (hbd _ _ _ _ ?_)
  refine wpAny_newFunctionEnv_cells S.kind kinds ?_
  intro env henv s1 x
  subst henv
  refine ⟨noL.keeps x.toInCall.keep, codeAny_func ?_⟩
  obtain ⟨t, ht, hq⟩ := hb cdv A out s H vs Q E (room.deep _) hsp
  have J0 := inv_start (CX := CX) (E := E) (f := f) (cd := cdv) S room.rm.hd e0 hlen rv x
  refine wpAny_mono (ht.run [] s1 (start N vs) H _ J0 hq) ?_ (fun _ _ hs => hs)
  intro fl s' hs
  cases fl with
  | next =>
    obtain ⟨σ', H', J, q⟩ := hs
    exact ⟨V.non, H', J.os, J.bare, J.base, J.hok, rfl, q⟩
  | ret u =>
    obtain ⟨v, σ', H', J, rr, q⟩ := hs
    exact ⟨v, H', J.os, J.bare, J.base, J.hok, rr, q⟩
  | cont =>
    obtain ⟨_, _, _, q⟩ := hs
    exact q.elim
  | brk =>
    obtain ⟨_, _, _, q⟩ := hs
    exact q.elim
/-- a def that lets no exception out -/
theorem okG {x qual : Str} {st : Stmt} {N : List Str} (F : Fun K x qual st f fd) (S : FnScope N ps (defScope st)) (len : ∀ vs H Q E, sp vs H Q E → vs.length = ps.length)
    (hb : ∀ (cdv : Value) (A : Around) (out : List Env) (s : Shared) (H : Hp) (vs : List V) (Q : VK) (E : XK),
      Rm k (A.deeper (envOfC qual (defScope st) s.heap.objs.size f cdv)) → sp vs H Q E →
      ∃ t, PSs (cxOf CX0 P w K mg base N qual (defScope st) f cdv A out s H E).nox (defBody st) t ∧ t { nx := fun _ H' => Q .non H', rt := Q } (start N vs) H) :
    FnG P w K mg base CX0 (k + 1) f fd ps sp :=
  bodyG F S len fun cdv A out s H vs Q E r q =>
    let ⟨t, h, z⟩ := hb cdv A out s H vs Q E r q
    ⟨t, h.nox, z⟩
end

/-! ### calls of such defs -/
section
variable {X : Cx} {CX : CXT} {k : Nat} {f : Addr} {fd : FuncData} {ps ks : List Str} {sp : Sp} {dvs : List V} {ds : List Value} {E : XK} {x : Str} {p pos : Pos} {e : Expr} {es : List Expr} {t tk : TA} {kws : List Keyword}
theorem endG {pins : List (Addr × Obj)} {σ : L2.St} {H : Hp} {s : Shared} {Q : VK} (I : Inv X pins σ H s) (hx : Passes CX X E) (r : Result) (s' : Shared) (h : CR CX X.stack X.prog X.w H s Q E r s') :
    (match r with | .ok (.ret u) => EP X pins σ Q u s' | .ok _ => False | .error e => X.xe e s') := by
  cases r with
  | error e => exact hx pins σ H s e s' I h
  | ok fl =>
    cases fl with
    | ret u => exact I.after h
    | _ => exact h
theorem runG {pins : List (Addr × Obj)} {σ : L2.St} {H : Hp} {s : Shared} {Q : VK} {us : List Value} {vs : List V} (F : FnG X.prog X.w X.K X.mg X.base CX k f fd ps sp) (hr : Rm k X.A) (hb : Binds X.K fd ps ds) (hd : Vals dvs ds)
    (hx : Passes CX X E) (I : Inv X pins σ H s) (r : Vals vs us) (h : sp (vs ++ dvs) H Q E) : wpAny (model X.prog X.w) X.A (call (.ref f) us) (EP X pins σ Q) X.xe s := by
  have rv := r.append hd
  have hl : (us ++ ds).length = ps.length := rv.length.symm.trans (F.len _ _ _ _ h)
  refine wpAny_call (codeAny_mono (F.run X.A X.stack s H ⟨us, []⟩ (us ++ ds) (vs ++ dvs) Q E hr I.env0 (hb s us I.kIn hl) rv h) fun r s' hq => ?_)
  have z := endG I hx r s' hq
  cases r with
  | error e => exact z
  | ok fl =>
    cases fl with
    | ret u => exact z
    | _ => exact z.elim
theorem callG (F : FnG X.prog X.w X.K X.mg X.base CX k f fd ps sp) (hr : Rm k X.A) (hg : Gl X x) (hm : X.mg x = some (.ref f)) (hk : PySem.W.keepIn X.K (.ref f) = true) (hb : Binds X.K fd ps ds) (hd : Vals dvs ds) (hx : Passes CX X E)
    (ha : PA X (e :: es) t) (hdb : (x == ("__debug__" : Str)) = false := by decide) (he : starEach (e :: es) X.env = (false, eval e X.env) :: starEach es X.env := by rfl)
    (hpl : (backTo pos (starEach es X.env)).any (·.1) = false := by rfl) : PE X (.Call (.Name x p) (e :: es) [] pos) (tCall sp dvs E t) := by
  refine ⟨fun pins s σ H Q I h => wpAny_Call_Name_kw (ld_glob I hg hm ?_ hdb)⟩
  refine PySem.W.callWith_K (h₀ := X.base) I.ok.mod.kin hk (thn (ha.run pos pins s σ H _ I h) ?_) he hpl
  intro us s1 ⟨vs, H1, I1, r, q⟩
  exact ⟨I1.kIn, runG F hr hb hd hx I1 r q⟩
theorem runGK {pins : List (Addr × Obj)} {σ : L2.St} {H : Hp} {s : Shared} {Q : VK} {us ws : List Value} {vs zs : List V} {g : List Value → List Value → List Value} {gV : List V → List V → List V}
    (F : FnG X.prog X.w X.K X.mg X.base CX k f fd ps sp) (hr : Rm k X.A) (hb : KBinds X.K fd ps ks g gV) (hx : Passes CX X E)
    (I : Inv X pins σ H s) (r : Vals vs us) (rz : Vals zs ws) (h : sp (gV vs zs) H Q E) : wpAny (model X.prog X.w) X.A (call (.ref f) us (ks.zip ws)) (EP X pins σ Q) X.xe s := by
  have rv := hb.rel r rz
  have hl : (g us ws).length = ps.length := rv.length.symm.trans (F.len _ _ _ _ h)
  refine wpAny_call (codeAny_mono (F.run X.A X.stack s H ⟨us, ks.zip ws⟩ (g us ws) (gV vs zs) Q E hr I.env0 (hb.to s us ws I.kIn hl) rv h) fun r s' hq => ?_)
  have z := endG I hx r s' hq
  cases r with
  | error e => exact z
  | ok fl =>
    cases fl with
    | ret u => exact z
    | _ => exact z.elim
end

/-! ### the end of a law -/
/-- the law's def, at the heap behind the top -/
theorem lawG {P : Program} {w : World} {K : PySem.W.Frag} {mg mb : Str → Option Value} {CX : CXT} {k : Nat} {fa a : Addr} {fd : FuncData} {x : Str} {sp : Sp} {s₁ : Shared} {vs : List Value} {ns : List Int}
    (inK : K.In s₁.heap) (hns : s₁.heap.Ns mainGlobals mg) (hb : s₁.heap.Ns builtinsNs mb) (hbb : ∀ x : Str, x ≠ "__name__" → mb x = bootBuiltins x) (hlim : s₁.heap.NoLimit) (hg : s₁.gens = #[])
    (ha : s₁.heap.get? a = some { cls := .type "list", data := .seq vs.toArray }) (hi : IntsAre vs ns) (hl : ns.length ≤ sizeLine) (hr : Rm k callerA)
    (F : ∀ base : Heap, K.In base → base.Ns mainGlobals mg → FnG P w K mg base CX k fa fd [x] sp) (hbind : ∀ (s : Shared) (u : Value), BindsTo s fd ⟨[u], []⟩ [(x, u)])
    (hsp : ∀ H : Hp, Only H → SqL K H a (ns.map V.int) → sp [.ref a] H (fun v _ => v = .bl true) fun _ _ _ => False)
    (hCX : ∀ H e s', CX [] H s₁ (fun _ _ _ => False) e s' → False) :
    codeAny (model P w) callerA (.call (.ref fa) ⟨[.ref a], []⟩) (fun r s' => r = .ok (.ret (.bool true)) ∧ OldK s₁.heap s'.heap ∧ s'.os = s₁.os ∧ AllBare s'.gens) s₁ := by
  have rv := vals_ints hi
  have go : ∀ H : Hp, Only H → SqL K H a (ns.map V.int) → HOk P w H s₁.heap → (∀ b, H b ≠ none → b = a) → (H a ≠ none → K.lookup a = none) →
      codeAny (model P w) callerA (.call (.ref fa) ⟨[.ref a], []⟩) (fun r s' => r = .ok (.ret (.bool true)) ∧ OldK s₁.heap s'.heap ∧ s'.os = s₁.os ∧ AllBare s'.gens) s₁ := by
    intro H hO hS hok only hK
    have nsd : ∀ {b : Addr} {o : Obj} {es : Array DictEntry} {ep : Nat}, s₁.heap.get? b = some o → o.data = .dict es ep → H b = none := by
      intro b o es ep e d
      cases q : H b with
      | none => rfl
      | some u =>
        obtain rfl : b = a := only b (by simp [q])
        rw [ha] at e
        cases e
        exact nomatch (show Data.seq vs.toArray _ = Data.dict es ep from d)
    have nsH : ∀ {b : Addr} {m : Str → Option Value}, s₁.heap.Ns b m → (hidT s₁.heap H).Ns b m := by
      intro b m ⟨o, es, ep, e, d, r⟩
      exact ⟨o, es, ep, hidT_get e (nsd e d), d, r⟩
    have inH : K.In (hidT s₁.heap H) := by
      intro b o e
      refine hidT_get (inK b o e) ?_
      cases q : H b with
      | none => rfl
      | some u =>
        obtain rfl : b = a := only b (by simp [q])
        rw [hK (by simp [q])] at e
        cases e
    have md : Mod K mg (hidT s₁.heap H) := ⟨inH, nsH hns, ⟨mb, nsH hb, hbb⟩, let ⟨mc, h1, h2⟩ := hlim; ⟨mc, nsH h1, h2⟩⟩
    have e0 : Env0 P w K mg (hidT s₁.heap H) callerA [] s₁ H :=
      ⟨rfl, md, fun b o e => of_hidT e, Nat.le_of_eq (hidT_size _ _), trivial, fun b hb => (List.not_mem_nil hb).elim, hok, .of_eq hg⟩
    refine codeAny_mono ((F _ inH (nsH hns)).run callerA [] s₁ H ⟨[.ref a], []⟩ [.ref a] [.ref a] _ _ hr e0 (hbind s₁ (.ref a)) (.cons rfl .nil) (hsp H hO hS)) ?_
    intro r s' h
    cases r with
    | error e => exact (hCX H e s' h).elim
    | ok fl =>
      cases fl with
      | ret u =>
        obtain ⟨v, H', os, bare, un, hok', r', q⟩ := h
        obtain rfl : v = .bl true := q
        obtain rfl : u = Value.bool true := r'
        refine ⟨rfl, OldK.of_keep ?_, os, bare⟩
        intro b o e
        cases q : H b with
        | none => exact un.keep b o e q (fun z => (List.not_mem_nil z).elim) (fun z => (List.not_mem_nil z).elim)
        | some u =>
          rcases hO b with z | ⟨ob, xs, z⟩
          · rw [q] at z
            cases z
          · obtain ⟨e1, _⟩ := hok b _ z
            obtain ⟨e2, _⟩ := hok' b _ (un.frzs b ob _ z)
            rw [e] at e1
            cases e1
            exact e2
      | _ => exact h.elim
  cases hk : K.lookup a with
  | some o =>
    have e := inK a o hk
    rw [ha] at e
    cases e
    refine go (fun _ => none) (fun _ => .inl rfl) (.inr ⟨_, vs.toArray, _, hk, rfl, rfl, rfl, ?_, by simpa using rv⟩) (fun b u z => nomatch z) (fun b z => (z rfl).elim) fun z => (z rfl).elim
    rw [List.size_toArray, hi.length]
    exact hl
  | none =>
    refine go (fun b => if b = a then some (.frz { cls := .type "list", data := .seq vs.toArray } (.lst (ns.map V.int))) else none) ?_ (.inl (.inr ⟨{ cls := .type "list", data := .seq vs.toArray }, if_pos rfl⟩)) ?_ ?_ fun _ => hk
    · intro b
      by_cases c : b = a
      · exact .inr ⟨_, _, if_pos c⟩
      · exact .inl (if_neg c)
    · intro b u z
      dsimp only at z
      by_cases c : b = a
      · rw [if_pos c] at z
        cases z
        subst c
        refine ⟨ha, ?_, vs, _, rv, ha⟩
        rw [List.length_map]
        exact hl
      · rw [if_neg c] at z
        cases z
    · intro b z
      by_cases c : b = a
      · exact c
      · exact (z (if_neg c)).elim

theorem walkG {l : PySem.W.OpenLaw} {n k : Nat} {q : Program} {loose : List Str} {XP : (Str → Option Value) → Heap → Prop} {YP : World → Heap → Prop} {d : DefRec} {K : Params → PySem.W.Frag} {CX : World → CXT} {sp : World → Sp} {x : Str}
    (hn : l.most = some n) (hn2 : n ≤ sizeLine) (hdf : d.params.defaults = []) (hr : Rm k callerA)
    (hY : ∀ (w : World) (h : Heap), YP w h → (K w.params).In h)
    (F : ∀ (w : World) (mg : Str → Option Value) (fa : Addr) (h : Heap), (K w.params).In h → h.Ns mainGlobals mg → mg d.name = some (.ref fa) →
      ∃ fd : FuncData, (∀ (s : Shared) (u : Value), BindsTo s fd ⟨[u], []⟩ [(x, u)]) ∧
        ∀ base : Heap, (K w.params).In base → base.Ns mainGlobals mg → FnG l.prog w (K w.params) mg base (CX w) k fa fd [x] (sp w))
    (hsp : ∀ (w : World) (H : Hp) (a : Addr) (ns : List Int), ns.length ≤ n → Only H → SqL (K w.params) H a (ns.map V.int) → sp w [.ref a] H (fun v _ => v = .bl true) fun _ _ _ => False)
    (hCX : ∀ (w : World) (H : Hp) (s : Shared) (e : Value) (s' : Shared), CX w [] H s (fun _ _ _ => False) e s' → False) :
    PySem.W.WalkO q loose XP YP l.row.toRowW d [] (fun f vs => PySem.call f vs) := by
  refine Att.attach_call hn hdf ?_
  intro w s₀ s₁ mg mb fa o pm cd doc a vs ns G Y ho hd hcd hmg hobj hints hlen hg
  have inK := hY w _ Y
  obtain ⟨fd, hb, hF⟩ := F w mg fa _ inK G.T.g hmg
  exact lawG inK G.T.g G.T.b G.T.builtins G.T.nolimit hg hobj hints (Nat.le_trans hlen hn2) hr hF hb (fun H hO hS => hsp w H a ns hlen hO hS) fun H e s' => hCX w H s₁ e s'

/-! ### repr of data -/
def rRepr (K : PySem.W.Frag) : List V → Hp → VK → Prop := fun xs H Q => ∃ (a : Addr) (d : PyData), xs = [.ref a] ∧ Dp K H (.ref a) d ∧ d.showable = true ∧ d.hasDict = false ∧ d.depth ≤ 60 ∧ d.shown.length ≤ sizeLine ∧ Q (.str d.shown) H
theorem call_repr {X : Cx} (hg : X.A.guards = some []) (hu : X.A.units + 64 < cLine) : CallR X (.builtin "repr") (rRepr X.K) := by
  intro pins s σ H xs us Q I r h
  obtain ⟨a, d, rfl, hd, hs, hn, hp, hz, q⟩ := h
  obtain ⟨u, rfl, ru⟩ := vals1 r
  cases (show u = Value.ref a from ru)
  obtain ⟨as, rd⟩ := Dp.reads I d (.ref a) (.ref a) hd rfl
  refine repr_of_reads' rd hs (fun z => by rw [hn] at z; cases z) hg (by omega) (fun _ _ e => e) (fun h' u tk hk => ?_) hz
  exact ⟨.str d.shown, H, I.kept hk, ⟨u, rfl⟩, q⟩
end Bk
namespace Bk
open PySem PySem.Spec PyProof.Rows L2

/-! ### enumerate(list, start=k) -/
theorem callWith_clsKw {M : Model} {A : Around} {E : Value → Shared → Prop} {s : Shared} {env : Env} {pos : Pos} {T : String} {e : Expr} {rest : List Expr} {kws : List Keyword} {Q : Value → Shared → Prop}
    (h : wpAny M A (spliced (backTo pos (starEach (e :: rest) env))) (fun vs s₁ => wpAny M A (evalAll ((backToKw pos (keywordEach kws env)).map (·.2)))
      (fun ks s₂ => wpAny M A (call (.type T) vs (((backToKw pos (keywordEach kws env)).filterMap (·.1)).zip ks)) Q E s₂) E s₁) E s)
    (hall : (backToKw pos (keywordEach kws env)).all (·.1.isSome) = true)
    (hplain : (backTo pos (starEach (e :: rest) env)).any (·.1) = false) (hkw : (backToKw pos (keywordEach kws env)).any (·.1.isNone) = false)
    (he : backTo pos (starEach (e :: rest) env) = (false, eval e env) :: backTo pos (starEach rest env)) :
    wpAny M A (callWith pos (.type T) [] (backTo pos (starEach (e :: rest) env)) (backToKw pos (keywordEach kws env))) Q E s := by
  have h2 : wpAny M A (evalArgs (.type T) true (backTo pos (starEach (e :: rest) env)) (backToKw pos (keywordEach kws env))) (fun a s₁ => wpAny M A (call (.type T) ([] ++ a.pos) a.kw) Q E s₁) E s := by
    rw [he] at h ⊢
    exact PyProof.Rows.evalArgs_kwB hall h
  unfold callWith
  refine wpAny_bind (wpAny_holding (wpAny_mono h2 (fun a s₁ h₁ => wpAny_bind (wpAny_standAt ?_)) fun _ _ x => x))
  simp only [hplain, hkw, Bool.or_false]
  refine wpAny_bind (wpAny_pure ?_)
  exact wpAny_bind (wpAny_mono h₁ (fun r s₂ hr => wpAny_bind (wpAny_holding (wpAny_point (wpAny_pure hr)))) fun _ _ x => x)

/-- the list at a, each item in a new pair, counted from c -/
def Itn (K : PySem.W.Frag) (a : Addr) (c : Int) : It :=
  ⟨fun i H => ∃ (xs : List V) (x : V), SqL K H a xs ∧ xs[i]? = some x,
   fun i H v H' => ∃ T x, v = .ref T ∧ H T = none ∧ H' = upd H T (.tup [.int (c + (i : Nat)), x]) ∧ ∀ xs, SqL K H a xs → xs[i]? = some x,
   fun i H => ∃ xs : List V, SqL K H a xs ∧ i = xs.length⟩

theorem turn_enumC {P : Program} {w : World} {K : PySem.W.Frag} {elts : List Expr} {kk : Nat} {tpos : Pos} (a e it : Addr) (c : Int) :
    Turn P w K (.Tuple elts kk tpos) (Itn K a c) [e, it] e (fun i h => (∃ old, IsEnum h e it (c + ((i : Nat) : Int)) old) ∧ h.IsListIter it a i ∧ e ≠ it) where
  mem := List.mem_cons_self
  obj := by
    intro i h st b hb
    obtain ⟨⟨old, he⟩, ⟨o, ho, hc, hd⟩, _⟩ := st
    rcases (show b = e ∨ b = it by simpa using hb) with z | z
    · rw [z]
      exact ⟨_, he, fun v q => nomatch q⟩
    · rw [z]
      exact ⟨o, ho, fun v q => by rw [hd] at q; cases q⟩
  keep := by
    intro i h h' st k
    obtain ⟨⟨old, he⟩, hi, hne⟩ := st
    exact ⟨⟨old, k e (by simp) _ he⟩, hi.at fun o q => k it (by simp) o q, hne⟩
  item := by
    intro X hP hw hK hc i pins s σ H E I hf st hg
    subst hP hw hK
    obtain ⟨⟨old, he⟩, hit, hne⟩ := st
    obtain ⟨xs, x, hq, hx⟩ := hg
    obtain ⟨its, rv, p, hz⟩ := I.list hq
    obtain ⟨u, hu, ru⟩ := rv.get hx
    have hel : e < s.heap.objs.size := Heap.lt_size he
    have hil : it < s.heap.objs.size := by
      obtain ⟨_, q, _⟩ := hit
      exact Heap.lt_size q
    have hai : a ≠ it := by
      intro z
      obtain ⟨o1, q1, c1, d1⟩ := hit
      obtain ⟨o2, n2, q2, c2, _⟩ := p
      rw [z, q1] at q2
      cases q2
      rw [c1] at c2
      exact absurd c2 (by decide)
    have hae : e ≠ a := by
      intro z
      obtain ⟨o2, n2, q2, c2, _⟩ := p
      have q3 : s.heap.get? a = _ := z ▸ he
      rw [q3] at q2
      cases q2
      exact absurd (show Value.type "enumerate" = Value.type "list" from c2) (by decide)
    have hi : i < its.toArray.size := by
      have := (List.getElem?_eq_some_iff.mp hu).1
      simpa using this
    refine wpAny_pyNext_enum_itemC (Draws.list (by show X.A.handled = none; exact I.ok.hd hc) it a hai its.toArray) he ⟨hit, p.isList⟩ hi hne (by simp [hne, hae]) ?_
    intro y h' tk hy ho st' hT hsz hk
    have ey : y = u := by
      have : its.toArray[i]? = some u := by simpa using hu
      rw [this] at hy
      exact (Option.some.inj hy).symm
    subst ey
    refine ⟨_, rfl, wpAny_letOwnedTupleGo_enum (s := { s with heap := h', toks := tk + 1 }) ho ?_⟩
    intro h'' he' sb
    have hT2 : h''.get? s.heap.objs.size = some { cls := .type "tuple", data := .seq #[.int (c + (i : Nat)) tk, y] } := (sb.2 _ (Nat.ne_of_gt hel)).trans hT
    have new : ObjOk X.prog X.w (upd H s.heap.objs.size (.tup [.int (c + (i : Nat)), x])) h'' s.heap.objs.size (.tup [.int (c + (i : Nat)), x]) :=
      ⟨by show 2 ≤ sizeLine; decide, [.int (c + (i : Nat)) tk, y], .cons ⟨_, rfl⟩ (.cons ru .nil), ⟨_, hT2, rfl, _, rfl⟩⟩
    have I1 : Inv X pins σ (upd H s.heap.objs.size (.tup [.int (c + (i : Nat)), x])) { s with heap := h'', toks := tk + 1 } := by
      refine I.turnedNew (ch := [e, it]) ?_ hf (Nat.le_refl _) new
      intro b ob hb q
      exact (sb.2 b (fun z => hb (by simp [z]))).trans (hk b ob (fun z => hb (by simp [z])) (fun z => hb (by simp [z])) q)
    refine ⟨.ref s.heap.objs.size, _, I1, rfl, ⟨_, x, rfl, I.hok.fresh (Nat.le_refl _), rfl, fun ys hy => ?_⟩, ⟨⟨y, ?_⟩, st'.1.at fun o q => (sb.2 it (Ne.symm hne)).trans q, hne⟩, fun b hb => ?_⟩
    · rw [I.list_inj hy hq]
      exact hx
    · have e1 : c + ((i + 1 : Nat) : Int) = c + (i : Int) + 1 := by omega
      rw [e1]
      exact he'
    · have hb' : b < s.heap.objs.size := by
        rcases (show b = e ∨ b = it by simpa using hb) with z | z
        · exact z ▸ hel
        · exact z ▸ hil
      rw [upd_ne (Nat.ne_of_lt hb')]
      exact (hf b hb).1
  done := by
    intro X hP hw hK hc i pins s σ H E I hf st hg
    subst hP hw hK
    obtain ⟨⟨old, he⟩, hit, hne⟩ := st
    obtain ⟨xs, hq, hx⟩ := hg
    obtain ⟨its, rv, p, hz⟩ := I.list hq
    obtain ⟨f0, f1, f2, f3, f4, f5⟩ := hf it (by simp)
    have hl := rv.length
    have hai : a ≠ it := by
      intro z
      obtain ⟨o1, q1, c1, d1⟩ := hit
      obtain ⟨o2, n2, q2, c2, _⟩ := p
      rw [z, q1] at q2
      cases q2
      rw [c1] at c2
      exact absurd c2 (by decide)
    have hn : i = its.toArray.size := by
      simp
      omega
    have st : s.heap.IsListIter it a its.toArray.size ∧ s.heap.IsList a its.toArray := ⟨hn ▸ hit, p.isList⟩
    refine wpAny_pyNext_enum_endD (Draws.list (by show X.A.handled = none; exact I.ok.hd hc) it a hai its.toArray) he st ?_
    intro h' eb
    exact ⟨rfl, I.turned (t' := s.toks) (fun b o hb q => eb b o hb q) f0 f1 f3 f4 f5⟩
  self := fun A i s Q E st h => by
    obtain ⟨⟨_, he⟩, _⟩ := st
    exact wpAny_pyIter_enum he h

def iEnumC (K : PySem.W.Frag) (ta : TA) (c : Int) : TI := fun σ H R => ta σ H fun vs H1 => ∃ a xs, vs = [.ref a] ∧ SqL K H1 a xs ∧ R (Itn K a c) H1
theorem pi_enumC {X : Cx} {e : Expr} {ta : TA} {p pos tpos kpos cpos : Pos} {elts : List Expr} {kk j : Nat} {c : Int} (hg : Gl X "enumerate") (hm : X.mg "enumerate" = none) (ha : PA X [e] ta)
    (hs : starEach [e] X.env = [(false, eval e X.env)] := by rfl) (h0 : -(2 ^ 63) ≤ c := by decide) (h1 : c < 2 ^ 63 := by decide)
    (hall : (backToKw pos (keywordEach [⟨some "start", .Constant (.int c) j cpos, kpos⟩] X.env)).all (·.1.isSome) = true := by rfl)
    (hks : (backToKw pos (keywordEach [⟨some "start", .Constant (.int c) j cpos, kpos⟩] X.env)).filterMap (·.1) = [Str.ofString "start"] := by rfl)
    (hnone : (backToKw pos (keywordEach [⟨some "start", .Constant (.int c) j cpos, kpos⟩] X.env)).any (·.1.isNone) = false := by rfl)
    (hpl : (backTo pos (starEach [e] X.env)).any (·.1) = false := by rfl) :
    PI X (.Tuple elts kk tpos) (.Call (.Name "enumerate" p) [e] [⟨some "start", .Constant (.int c) j cpos, kpos⟩] pos) (iEnumC X.K ta c) := by
  refine ⟨fun pins s σ H R I h => ?_⟩
  refine wpAny_Call_Name_kw (ld_blt I hg hm boot_enumerate ?_)
  refine callWith_clsKw (thn (ha.run pos pins s σ H _ I h) fun us s1 ⟨vs, H1, I1, r1, q1⟩ => thn ((pk_cons pe_int pk_nil).run pos pins s1 σ H1 _ I1 (show tCons (tC (.int c)) tNil σ H1 (fun zs H2 => zs = [.int c] ∧ H2 = H1) from ⟨rfl, rfl⟩)) fun ws s2 ⟨zs, H2, I2, r2, e2, e3⟩ => ?_) hall hpl hnone (by rw [hs]; rfl)
  subst e2 e3
  obtain ⟨a, xs, ex, hq, q⟩ := q1
  subst ex
  rw [hks]
  obtain ⟨u, rfl, ru⟩ := vals1 r1
  obtain ⟨v, rfl, t, rfl⟩ := vals1 r2
  cases (show u = Value.ref a from ru)
  obtain ⟨its, rv, p', hz⟩ := I2.list hq
  refine enum_begins_start (begins_list a its.toArray) p'.isList h0 h1 fun h' he hit hsz hk => wpAny_pyIter_enum he ?_
  have I3 : Inv X pins σ H2 { s2 with heap := h' } := I2.kept (t' := s2.toks) hk
  refine ⟨s2.heap.objs.size + 1, [s2.heap.objs.size + 1, s2.heap.objs.size], _, _, H2, rfl, I3, turn_enumC a (s2.heap.objs.size + 1) s2.heap.objs.size c, ⟨⟨.none, ?_⟩, ⟨_, hit, rfl, rfl⟩, Nat.succ_ne_self _⟩, fun b hb => ?_, q⟩
  · rw [show c + ((0 : Nat) : Int) = c by omega]
    exact he
  · have hle : s2.heap.objs.size ≤ b := by
      rcases (show b = s2.heap.objs.size + 1 ∨ b = s2.heap.objs.size by simpa using hb) with z | z
      · rw [z]
        exact Nat.le_succ _
      · rw [z]
        exact Nat.le_refl _
    exact I2.fpOk hle (I2.hok.fresh hle)

/-! ### powers of great numbers -/
def CPowW (i j : Int) : Prop := 0 ≤ j ∧ j ≤ 64 ∧ i.natAbs < 2 ^ 1000
theorem op_powW {X : Cx} : OpR X (binaryOp .Pow) (rI CPowW fun i j => .int (i ^ j.toNat)) := opI fun i j _ _ _ _ _ hc q => by
  obtain ⟨h0, h1, h2⟩ := hc
  refine PyProof.Rows.pow_int h0 ?_ q
  have hb : Builtin.Int.intBits i ≤ 1000 := by
    unfold Builtin.Int.intBits
    split
    · omega
    · rename_i hne
      have : i.natAbs ≠ 0 := by
        intro z
        apply hne
        simp only [beq_iff_eq]
        omega
      have := (Nat.log2_lt this).mpr h2
      omega
  have : (Builtin.Int.intBits i : Int) * j ≤ 1000 * 64 := Int.mul_le_mul (by omega) h1 h0 (by omega)
  omega
end Bk
namespace Bk
open PySem PySem.Spec PyProof.Rows L2

/-! ### heaps that grow, but for one object -/
def But (a : Addr) (H H' : Hp) : Prop := ∀ b o, b ≠ a → H b = some o → H' b = some o
theorem But.refl (a : Addr) (H : Hp) : But a H H := fun _ _ _ h => h
theorem But.trans {a : Addr} {H H1 H2 : Hp} (x : But a H H1) (y : But a H1 H2) : But a H H2 := fun b o n h => y b o n (x b o n h)
theorem But.same {a : Addr} {H H1 : Hp} (x : Same H H1) : But a H H1 := fun b o _ h => x b o h
theorem But.new {a p : Addr} {H : Hp} {o : HO} (n : H p = none) : But a H (upd H p o) := fun b u _ h => by
  rw [upd_ne (ne_of_none h n)]
  exact h
theorem But.at {a : Addr} {H : Hp} {o : HO} : But a H (upd H a o) := fun b u n h => by
  rw [upd_ne n]
  exact h
/-- an object that was not there at H may change -/
theorem But.own {a p : Addr} {H H1 : Hp} {o : HO} (x : But a H H1) (n : H p = none) : But a H (upd H1 p o) := fun b u m h => by
  rw [upd_ne (ne_of_none h n)]
  exact x b u m h
theorem Same.new {p : Addr} {H : Hp} {o : HO} (n : H p = none) : Same H (upd H p o) := fun b u h => by
  rw [upd_ne (ne_of_none h n)]
  exact h
theorem Same.own {p : Addr} {H H1 : Hp} {o : HO} (x : Same H H1) (n : H p = none) : Same H (upd H1 p o) := fun b u h => by
  rw [upd_ne (ne_of_none h n)]
  exact x b u h
theorem Same.but {a : Addr} {H H1 H2 : Hp} (x : Same H H1) (n : H a = none) (y : But a H1 H2) : Same H H2 := fun b o h => y b o (ne_of_none h n) (x b o h)
theorem But.free {a b : Addr} {H H' : Hp} (x : But a H H') (n : b ≠ a) (h : H' b = none) : H b = none := by
  cases q : H b with
  | none => rfl
  | some o =>
    rw [x b o n q] at h
    cases h
theorem But.seq {K : PySem.W.Frag} {a b : Addr} {H H' : Hp} {xs : List V} (x : But a H H') (n : b ≠ a) (h : SqL K H b xs) : SqL K H' b xs := by
  rcases h with (h | ⟨o, h⟩) | h
  · exact .inl (.inl (x _ _ n h))
  · exact .inl (.inr ⟨o, x _ _ n h⟩)
  · exact .inr h
theorem But.seqT {K : PySem.W.Frag} {a b : Addr} {H H' : Hp} {xs : List V} (x : But a H H') (n : b ≠ a) (h : SqT K H b xs) : SqT K H' b xs := by
  rcases h with (h | ⟨o, h⟩) | h
  · exact .inl (.inl (x _ _ n h))
  · exact .inl (.inr ⟨o, x _ _ n h⟩)
  · exact .inr h
theorem Same.seqT {K : PySem.W.Frag} {b : Addr} {H H' : Hp} {xs : List V} (x : Same H H') (h : SqT K H b xs) : SqT K H' b xs := by
  rcases h with (h | ⟨o, h⟩) | h
  · exact .inl (.inl (x _ _ h))
  · exact .inl (.inr ⟨o, x _ _ h⟩)
  · exact .inr h

/-! ### lists of ints -/
abbrev vi (ns : List Int) : List V := ns.map V.int
abbrev di (ns : List Int) : List PyData := ns.map PyData.int
theorem vi_get {ns : List Int} {i : Nat} {x : Int} (h : ns[i]? = some x) : (vi ns)[i]? = some (.int x) := by
  rw [List.getElem?_map, h]
  rfl
theorem vi_at {ns : List Int} {i : Nat} (h : i < ns.length) : (vi ns)[i]? = some (.int ns[i]) := vi_get (List.getElem?_eq_getElem h)
theorem dpAll_ints (K : PySem.W.Frag) (H : Hp) : ∀ ns : List Int, DpAll K H (vi ns) (di ns)
  | [] => .nil
  | n :: r => .cons (.int n) (dpAll_ints K H r)
theorem dp_lst {K : PySem.W.Frag} {H : Hp} {a : Addr} {ns : List Int} (h : SqL K H a (vi ns)) : Dp K H (.ref a) (.list (di ns)) := .lst h (dpAll_ints K H ns)
theorem dp_tup {K : PySem.W.Frag} {H : Hp} {a : Addr} {ns : List Int} (h : SqT K H a (vi ns)) : Dp K H (.ref a) (.tuple (di ns)) := .tup h (dpAll_ints K H ns)
theorem canLay_ints : ∀ ns : List Int, PyData.canLayAll0 (di ns) = true
  | [] => rfl
  | n :: r => by simp [PyData.canLayAll0, PyData.canLay0, canLay_ints r]
theorem depthAll_ints : ∀ ns : List Int, PyData.depthAll (di ns) = 0
  | [] => rfl
  | n :: r => by simp [PyData.depthAll, PyData.depth, depthAll_ints r]
theorem shaped_l (ns : List Int) : SeqAt.shaped (.list (di ns)) = true := by
  simp [SeqAt.shaped, PyData.canLay0, canLay_ints, PyData.depth, depthAll_ints]
theorem shaped_t (ns : List Int) : SeqAt.shaped (.tuple (di ns)) = true := by
  simp [SeqAt.shaped, PyData.canLay0, canLay_ints, PyData.depth, depthAll_ints]
theorem eqvAll_ints : ∀ ns ms : List Int, PyData.eqvAll (di ns) (di ms) = decide (ns = ms)
  | [], [] => rfl
  | [], m :: r => by simp [PyData.eqvAll]
  | n :: r, [] => by simp [PyData.eqvAll]
  | n :: r, m :: q => by
    have ih := eqvAll_ints r q
    simp only [List.map_cons, PyData.eqvAll, PyData.eqv, ih]
    by_cases h1 : n = m
    · by_cases h2 : r = q
      · simp [h1, h2]
      · simp [h1, h2]
    · simp [h1]
theorem eqv_l (ns ms : List Int) : PyData.eqv (.list (di ns)) (.list (di ms)) = decide (ns = ms) := by
  rw [PyData.eqv]
  exact eqvAll_ints ns ms
theorem eqv_t (ns ms : List Int) : PyData.eqv (.tuple (di ns)) (.tuple (di ms)) = decide (ns = ms) := by
  rw [PyData.eqv]
  exact eqvAll_ints ns ms

/-! ### how long a text of data is -/
def wide (k : Nat) (ns : List Int) : Prop := ∀ n ∈ ns, n.natAbs.log2 < k
theorem wide.mono {j k : Nat} {ns : List Int} (h : wide j ns) (hk : j ≤ k) : wide k ns := fun n m => Nat.lt_of_lt_of_le (h n m) hk
theorem wide_lt {k : Nat} {ns : List Int} (h0 : 0 < k) (h : ∀ n ∈ ns, n.natAbs < 2 ^ k) : wide k ns := fun n m => PySem.Flt.log2_lt_of h0 (h n m)
theorem textFrom_le : ∀ (ts : List Str) (k L : Nat) (acc : Str), (∀ t ∈ ts, t.length ≤ L) → (textFrom k acc ts).length ≤ acc.length + (L + 2) * ts.length
  | [], k, L, acc, h => Nat.le_refl _
  | t :: r, k, L, acc, h => by
    have h1 := h t List.mem_cons_self
    have ih := textFrom_le r (k + 1) L (acc ++ (if k > 0 then ", " else "" : String) ++ t) fun u m => h u (List.mem_cons_of_mem _ m)
    show (textFrom (k + 1) (acc ++ (if k > 0 then ", " else "" : String) ++ t) r).length ≤ _
    refine Nat.le_trans ih ?_
    rw [strLen_append, strLen_append, List.length_cons, Nat.mul_add]
    have e : ((if k > 0 then ", " else "" : String) : Str).length ≤ 2 := by
      split
      · exact Nat.le_refl 2
      · exact Nat.zero_le 2
    omega
theorem listText_le {ts : List Str} {L : Nat} (h : ∀ t ∈ ts, t.length ≤ L) : (listText ts).length ≤ (L + 2) * ts.length + 2 := by
  unfold listText
  rw [strLen_append]
  have := textFrom_le ts 0 L "[" h
  have e1 : (("[" : String) : Str).length = 1 := rfl
  have e2 : (("]" : String) : Str).length = 1 := rfl
  omega
theorem piled_le : ∀ {ts : List Str} {L : Nat}, (∀ t ∈ ts, t.length ≤ L) → piled ts ≤ (L + 2) * ts.length
  | [], L, _ => by simp [piled]
  | t :: r, L, h => by
    have := h t List.mem_cons_self
    have ih := piled_le (ts := r) (L := L) fun u m => h u (List.mem_cons_of_mem _ m)
    rw [piled_cons, List.length_cons, Nat.mul_add]
    omega
theorem tupleText_le {ts : List Str} {L : Nat} (h : ∀ t ∈ ts, t.length ≤ L) : (tupleText ts).length ≤ (L + 2) * ts.length + 3 := by
  unfold tupleText
  rw [strLen_append, strLen_append]
  have e1 : ((("(" : String) : Str)).length = 1 := rfl
  have e3 : (((if ts.length == 1 then ",)" else ")" : String) : Str)).length ≤ 2 := by split <;> decide
  rw [e1]
  by_cases hn : ts = []
  · subst hn
    have : (Str.join ", " ([] : List Str)).length = 0 := rfl
    omega
  · have j := join_length_add ts hn
    have p := piled_le h
    omega
theorem shownAll_ints : ∀ ns : List Int, PyData.shownAll (di ns) = ns.map fun i => (toString i : Str)
  | [] => rfl
  | n :: r => by
    show PyData.shown (.int n) :: PyData.shownAll (di r) = _
    rw [shownAll_ints r, PyData.shown]
    rfl
theorem shown_le {k : Nat} {ns : List Int} (hk : 0 < k) (h : wide k ns) : ∀ t ∈ PyData.shownAll (di ns), t.length ≤ k + 1 := by
  intro t m
  rw [shownAll_ints] at m
  obtain ⟨i, hi, rfl⟩ := List.mem_map.mp m
  rw [PySem.ofString_length]
  exact int_text_length_le hk (h i hi)
theorem showable_ints : ∀ {ns : List Int}, wide 1920 ns → PyData.showableAll (di ns) = true
  | [], _ => rfl
  | n :: r, h => by
    have h1 : n.natAbs.log2 < 1920 := h n List.mem_cons_self
    have h2 := showable_ints (ns := r) fun m hm => h m (List.mem_cons_of_mem _ hm)
    simp [PyData.showableAll, PyData.showable, h1, h2]
theorem noDict_ints : ∀ ns : List Int, PyData.hasDictAll (di ns) = false
  | [] => rfl
  | n :: r => by simp [PyData.hasDictAll, PyData.hasDict, noDict_ints r]
/-- what repr asks of a list, a tuple of ints -/
theorem repr_l {K : PySem.W.Frag} {H : Hp} {a : Addr} {ns : List Int} {Q : VK} (h : SqL K H a (vi ns)) (hw : wide 1900 ns) (hl : ns.length ≤ 4000) (q : Q (.str (PyData.list (di ns)).shown) H) : rRepr K [.ref a] H Q := by
  refine ⟨a, .list (di ns), rfl, dp_lst h, ?_, ?_, ?_, ?_, q⟩
  · simp [PyData.showable, showable_ints (hw.mono (by decide))]
  · simp [PyData.hasDict, noDict_ints]
  · simp [PyData.depth, depthAll_ints]
  · rw [PyData.shown]
    have := listText_le (shown_le (by decide) hw)
    rw [shownAll_ints, List.length_map, ← shownAll_ints] at this
    rw [sizeLine_eq]
    omega
theorem repr_t {K : PySem.W.Frag} {H : Hp} {a : Addr} {ns : List Int} {Q : VK} (h : SqT K H a (vi ns)) (hw : wide 1900 ns) (hl : ns.length ≤ 4000) (q : Q (.str (PyData.tuple (di ns)).shown) H) : rRepr K [.ref a] H Q := by
  refine ⟨a, .tuple (di ns), rfl, dp_tup h, ?_, ?_, ?_, ?_, q⟩
  · simp [PyData.showable, showable_ints (hw.mono (by decide))]
  · simp [PyData.hasDict, noDict_ints]
  · simp [PyData.depth, depthAll_ints]
  · rw [PyData.shown]
    have := tupleText_le (shown_le (by decide) hw)
    rw [shownAll_ints, List.length_map, ← shownAll_ints] at this
    rw [sizeLine_eq]
    omega
end Bk
namespace Bk
open PySem PySem.Spec PyProof.Rows L2 Evl

section
variable {X : Cx} {CX : CXT} {k : Nat} {f : Addr} {fd : FuncData} {ps ks : List Str} {sp : Sp} {E : XK} {x : Str} {p pos : Pos} {tk : TA} {kws : List Keyword}
/-- f(k = v, ..) -/
theorem callGK0 {g : List Value → List Value → List Value} {gV : List V → List V → List V} (F : FnG X.prog X.w X.K X.mg X.base CX k f fd ps sp) (hr : Rm k X.A) (hg : Gl X x) (hm : X.mg x = some (.ref f)) (hk : PySem.W.keepIn X.K (.ref f) = true)
    (hb : KBinds X.K fd ps ks g gV) (hx : Passes CX X E) (hkw : PK X kws tk) (hall : (backToKw pos (keywordEach kws X.env)).all (·.1.isSome) = true := by rfl)
    (hks : (backToKw pos (keywordEach kws X.env)).filterMap (·.1) = ks := by rfl) (hdb : (x == ("__debug__" : Str)) = false := by decide)
    (hpl : ((backTo pos (starEach [] X.env)).any (·.1) || (backToKw pos (keywordEach kws X.env)).any (·.1.isNone)) = false := by rfl) :
    PE X (.Call (.Name x p) [] kws pos) (tCallK sp gV E tNil tk) := by
  refine ⟨fun pins s σ H Q I h => wpAny_Call_Name_kw (ld_glob I hg hm ?_ hdb)⟩
  refine PySem.W.callWith_KW0 (h₀ := X.base) I.ok.mod.kin hk hall (thn (hkw.run pos pins s σ H _ I h) ?_) hpl
  intro ws s2 ⟨zs, H2, I2, rz, q2⟩
  refine ⟨I2.kIn, ?_⟩
  rw [hks]
  exact runGK F hr hb hx I2 .nil rz q2
end

/-- how keywords are put into the parameters' order -/
def gK {α : Type} (na nk : Nat) (idx : List Nat) (us ws : List α) : List α := if us.length = na ∧ ws.length = nk then idx.filterMap (fun i => (us ++ ws)[i]?) else []
theorem vals_pick {xs : List V} {us : List Value} (r : Vals xs us) : ∀ idx : List Nat, Vals (idx.filterMap (fun i => xs[i]?)) (idx.filterMap (fun i => us[i]?))
  | [] => .nil
  | i :: idx => by
    have ih := vals_pick r idx
    cases g : xs[i]? with
    | none =>
      rw [List.filterMap_cons_none (by exact g), List.filterMap_cons_none (by exact r.none_of g)]
      exact ih
    | some x =>
      obtain ⟨u, hu, rx⟩ := r.get g
      rw [List.filterMap_cons_some (by exact g), List.filterMap_cons_some (by exact hu)]
      exact .cons rx ih
theorem gK_rel {na nk : Nat} {idx : List Nat} {vs : List V} {us : List Value} {zs : List V} {ws : List Value} (r : Vals vs us) (rz : Vals zs ws) : Vals (gK na nk idx vs zs) (gK na nk idx us ws) := by
  unfold gK
  rw [r.length, rz.length]
  split
  · exact vals_pick (r.append rz) idx
  · exact .nil
theorem gK_len {α : Type} {na nk n : Nat} {idx : List Nat} {us ws : List α} (h : (gK na nk idx us ws).length = n) (hn : n ≠ 0) : us.length = na ∧ ws.length = nk := by
  unfold gK at h
  split at h
  · assumption
  · exact absurd h.symm hn

/-! ### isinstance of a built-in class -/
theorem isi_ty {K : PySem.W.Frag} {H : Hp} {x : V} {t T : String} {b : Bool} {Q : VK} (ty : TyX K H x (.type t)) (k : kitB t T = some b) (q : Q (.bl b) H) : rIsi K [x, .ty T] H Q :=
  ⟨x, .ty T, .type t, .type T, b, rfl, .ty T, ty, kit_ty k, q⟩
theorem kb_int_int : kitB "int" "int" = some true := by decide +kernel
theorem kb_int_bool : kitB "int" "bool" = some false := by decide +kernel
theorem kb_list_list : kitB "list" "list" = some true := by decide +kernel
theorem kb_tuple_tuple : kitB "tuple" "tuple" = some true := by decide +kernel
theorem bt_int : bootBuiltins "int" = some (.type "int") := by decide +kernel
theorem bt_bool : bootBuiltins "bool" = some (.type "bool") := by decide +kernel
theorem bt_list : bootBuiltins "list" = some (.type "list") := by decide +kernel
theorem bt_tuple : bootBuiltins "tuple" = some (.type "tuple") := by decide +kernel
/-- the type of a list that is read -/
theorem ty_seql {K : PySem.W.Frag} {H : Hp} {a : Addr} {xs : List V} (h : SqL K H a xs) : TyX K H (.ref a) (.type "list") := by
  rcases h with (h | ⟨o, h⟩) | ⟨o, its, n, hk, hc, _⟩
  · exact .base (.lst h)
  · exact .base (.frz h)
  · exact .kList hk hc
theorem ty_seqt {K : PySem.W.Frag} {H : Hp} {a : Addr} {xs : List V} (h : SqT K H a xs) : TyX K H (.ref a) (.type "tuple") := by
  rcases h with (h | ⟨o, h⟩) | ⟨o, its, n, hk, hc, _⟩
  · exact .base (.tup h)
  · exact .fTuple h
  · exact .kTuple hk hc

/-! ### more of what evaluates to what -/
section
variable {K : PySem.W.Frag} {σ : L2.St} {H H' : Hp} {ta tb te : TE} {t u : TT} {x y z v : V}
theorem ev_isi {T t : String} {b : Bool} (h : Ev ta σ H x) (ty : ∀ H1, Ex H H1 → TyX K H1 x (.type t)) (k : kitB t T = some b) : Ev (tCB (rIsi K) (tCons ta (tCons (tC (.ty T)) tNil))) σ H (.bl b) := fun H1 e Q q =>
  h H1 e _ fun H2 e2 => isi_ty (ty H2 (e.trans e2)) k (q H2 e2)
theorem ev_sum {p : Addr} {ns : List Int} (ha : Ev ta σ H (.ref p)) (h : SqL K H p (vi ns)) : Ev (tCB (rSum K) (tCons ta tNil)) σ H (.int ns.sum) := fun H1 e Q q =>
  ha H1 e _ fun H2 e2 => ⟨p, ns, rfl, ex_l (e.trans e2) h, q H2 e2⟩
theorem ev_sumN {ns : List Int} (ha : EvL ta σ H (vi ns)) : Ev (tCB (rSum K) (tCons ta tNil)) σ H (.int ns.sum) := fun H1 e Q q =>
  ha H1 e _ fun p H2 hp e2 h2 => ⟨p, ns, rfl, sq_of h2, q H2 e2⟩
theorem ev_int1 {i : Int} (ha : Ev ta σ H (.int i)) : Ev (tCB (fun xs H Q => (∃ i, xs = [.int i] ∧ Q (.int i) H) ∨ ∃ k, xs = [.bl k] ∧ Q (.int (if k then 1 else 0)) H) (tCons ta tNil)) σ H (.int i) := fun H1 e Q q =>
  ha H1 e _ fun H2 e2 => .inl ⟨i, rfl, q H2 e2⟩
theorem ev_abs {i : Int} (ha : Ev ta σ H (.int i)) : Ev (tCB (fun xs H Q => ∃ i, xs = [.int i] ∧ Q (.int (if i < 0 then -i else i)) H) (tCons ta tNil)) σ H (.int (if i < 0 then -i else i)) := fun H1 e Q q =>
  ha H1 e _ fun H2 e2 => ⟨i, rfl, q H2 e2⟩
theorem ev_min2 {i j : Int} (ha : Ev ta σ H (.int i)) (hb : Ev tb σ H (.int j)) : Ev (tCB (fun xs H Q => ∃ i j, xs = [.int i, .int j] ∧ Q (.int (if j < i then j else i)) H) (tCons ta (tCons tb tNil))) σ H (.int (if j < i then j else i)) := fun H1 e Q q =>
  ha H1 e _ fun H2 e2 => hb H2 (e.trans e2) _ fun H3 e3 => ⟨i, j, rfl, q H3 (e2.trans e3)⟩
/-- tuple(xs), xs a new list -/
def rTupOf (K : PySem.W.Frag) : List V → Hp → VK → Prop := fun xs H Q => ∃ p ys, xs = [.ref p] ∧ ((SqL K H p ys ∧ ∀ l, H l = none → Q (.ref l) (upd H l (.tup ys))) ∨ (SqT K H p ys ∧ Q (.ref p) H))
theorem eu_tupOf {p : Addr} {xs : List V} (ha : Ev ta σ H (.ref p)) (h : SqL K H p xs) : EvU (tCB (rTupOf K) (tCons ta tNil)) σ H xs := fun H1 e Q q =>
  ha H1 e _ fun H2 e2 => ⟨p, xs, rfl, .inl ⟨ex_l (e.trans e2) h, fun l hl => q l _ (fresh_back e2 hl) (e2.trans (Ex.new hl)) upd_same⟩⟩
theorem eu_tupOfN {xs : List V} (ha : EvL ta σ H xs) : EvU (tCB (rTupOf K) (tCons ta tNil)) σ H xs := fun H1 e Q q =>
  ha H1 e _ fun p H2 hp e2 h2 => ⟨p, xs, rfl, .inl ⟨sq_of h2, fun l hl => q l _ (fresh_back e2 hl) (e2.trans (Ex.new hl)) upd_same⟩⟩
/-- a + b of lists -/
theorem el_cat {p q : Addr} {xs ys : List V} (ha : Ev ta σ H (.ref p)) (hb : EvL tb σ H ys) (h : H p = some (.lst xs)) (hz : xs.length + ys.length ≤ 100000) : EvL (tOp rCat ta tb) σ H (xs ++ ys) := fun H1 e Q k =>
  ha H1 e _ fun H2 e2 => hb H2 (e.trans e2) _ fun r H3 hr e3 h3 => ⟨p, r, xs, ys, rfl, rfl, e3 _ _ (e2 _ _ (e _ _ h)), h3, sz_of hz, fun l hl => k l _ (fresh_back (e2.trans e3) hl) ((e2.trans e3).trans (Ex.new hl)) upd_same⟩
theorem el_catNN {xs ys : List V} (ha : EvL ta σ H xs) (hb : EvL tb σ H ys) (hz : xs.length + ys.length ≤ 100000) : EvL (tOp rCat ta tb) σ H (xs ++ ys) := fun H1 e Q k =>
  ha H1 e _ fun p H2 hp e2 h2 => hb H2 (e.trans e2) _ fun r H3 hr e3 h3 => ⟨p, r, xs, ys, rfl, rfl, e3 _ _ h2, h3, sz_of hz, fun l hl => k l _ (fresh_back (e2.trans e3) hl) ((e2.trans e3).trans (Ex.new hl)) upd_same⟩
theorem el_catPP {p q : Addr} {xs ys : List V} (ha : Ev ta σ H (.ref p)) (hb : Ev tb σ H (.ref q)) (h : H p = some (.lst xs)) (h' : H q = some (.lst ys)) (hz : xs.length + ys.length ≤ 100000) : EvL (tOp rCat ta tb) σ H (xs ++ ys) := fun H1 e Q k =>
  ha H1 e _ fun H2 e2 => hb H2 (e.trans e2) _ fun H3 e3 => ⟨p, q, xs, ys, rfl, rfl, e3 _ _ (e2 _ _ (e _ _ h)), e3 _ _ (e2 _ _ (e _ _ h')), sz_of hz, fun l hl => k l _ (fresh_back (e2.trans e3) hl) ((e2.trans e3).trans (Ex.new hl)) upd_same⟩

/-! ### pairs: enumerate, zip -/
abbrev g2 (K : PySem.W.Frag) (i j : Nat) : TG := gTup K 2 (gCons (gName i) (gCons (gName j) gNil))
theorem g2_go {i j : Nat} {T : Addr} {x y : V} {Q : L2.St → Hp → Prop} (h : H T = some (.tup [x, y])) (q : Q ((σ.set i (some x)).set j (some y)) H) : g2 K i j (.ref T) σ H Q :=
  ⟨T, [x, y], rfl, .inl (.inl h), rfl, x, [y], rfl, y, [], rfl, rfl, q⟩
variable {D : Ends} {tu tz : TS}
theorem for_Itn {a : Addr} {xs : List V} {c : Int} {i j : Nat} (Pv : Nat → L2.St → Hp → Prop) (h0 : Pv 0 σ H) (hl : ∀ n σ' H', n ≤ xs.length → Pv n σ' H' → SqL K H' a xs)
    (hs : ∀ n x σ' H', xs[n]? = some x → Pv n σ' H' → ∀ H1, Ex H' H1 → tu { D with nx := Pv (n + 1), ct := Pv (n + 1), bk := D.nx } ((σ'.set i (some (.int (c + (n : Nat))))).set j (some x)) H1) (hd : ∀ σ' H', Pv xs.length σ' H' → D.nx σ' H') :
    ∃ W : Nat → Nat → L2.St → Hp → Prop, (∃ m, W 0 m σ H) ∧ ∀ n m σ H, W n m σ H → ((Itn K a c).stop n H ∧ D.nx σ H) ∨ ((Itn K a c).go n H ∧ ∃ N : L2.St → Hp → Prop, (∀ σ' H', N σ' H' → ∃ m', m' < m ∧ W (n + 1) m' σ' H') ∧
      ∀ x H', (Itn K a c).yld n H x H' → g2 K i j x σ H' fun σ2 H2 => tu { D with nx := N, ct := N, bk := D.nx } σ2 H2) := by
  refine ⟨fun n m σ H => m = xs.length - n ∧ n ≤ xs.length ∧ Pv n σ H, ⟨xs.length, by simp, Nat.zero_le _, h0⟩, ?_⟩
  rintro n m σ H ⟨rfl, hi, p⟩
  have q := hl n σ H hi p
  by_cases hlt : n < xs.length
  · refine .inr ⟨⟨xs, xs[n], q, by simp [hlt]⟩, Pv (n + 1), fun σ' H' p' => ⟨xs.length - (n + 1), by omega, rfl, hlt, p'⟩, ?_⟩
    rintro v H' ⟨T, x, rfl, nT, rfl, hx⟩
    exact g2_go upd_same (hs n x σ H (hx xs q) p _ (Ex.new nT))
  · have e : n = xs.length := by omega
    subst e
    exact .inl ⟨⟨xs, q, rfl⟩, hd σ H p⟩
theorem for_Ite {a : Addr} {xs : List V} {i j : Nat} (Pv : Nat → L2.St → Hp → Prop) (h0 : Pv 0 σ H) (hl : ∀ n σ' H', n ≤ xs.length → Pv n σ' H' → SqL K H' a xs)
    (hs : ∀ n x σ' H', xs[n]? = some x → Pv n σ' H' → ∀ H1, Ex H' H1 → tu { D with nx := Pv (n + 1), ct := Pv (n + 1), bk := D.nx } ((σ'.set i (some (.int (n : Nat)))).set j (some x)) H1) (hd : ∀ σ' H', Pv xs.length σ' H' → D.nx σ' H') :
    ∃ W : Nat → Nat → L2.St → Hp → Prop, (∃ m, W 0 m σ H) ∧ ∀ n m σ H, W n m σ H → ((Ite K a).stop n H ∧ D.nx σ H) ∨ ((Ite K a).go n H ∧ ∃ N : L2.St → Hp → Prop, (∀ σ' H', N σ' H' → ∃ m', m' < m ∧ W (n + 1) m' σ' H') ∧
      ∀ x H', (Ite K a).yld n H x H' → g2 K i j x σ H' fun σ2 H2 => tu { D with nx := N, ct := N, bk := D.nx } σ2 H2) := by
  refine ⟨fun n m σ H => m = xs.length - n ∧ n ≤ xs.length ∧ Pv n σ H, ⟨xs.length, by simp, Nat.zero_le _, h0⟩, ?_⟩
  rintro n m σ H ⟨rfl, hi, p⟩
  have q := hl n σ H hi p
  by_cases hlt : n < xs.length
  · refine .inr ⟨⟨xs, xs[n], q, by simp [hlt]⟩, Pv (n + 1), fun σ' H' p' => ⟨xs.length - (n + 1), by omega, rfl, hlt, p'⟩, ?_⟩
    rintro v H' ⟨T, x, rfl, nT, rfl, hx⟩
    exact g2_go upd_same (hs n x σ H (hx xs q) p _ (Ex.new nT))
  · have e : n = xs.length := by omega
    subst e
    exact .inl ⟨⟨xs, q, Nat.le_refl _⟩, hd σ H p⟩
theorem s_forEn {a : Addr} {xs : List V} {tl : TE} {i j : Nat} (h : Ev tl σ H (.ref a)) (hx : SqL K H a xs) (Pv : Nat → L2.St → Hp → Prop) (h0 : ∀ H1, Ex H H1 → Pv 0 σ H1) (hl : ∀ n σ' H', n ≤ xs.length → Pv n σ' H' → SqL K H' a xs)
    (hs : ∀ n x σ' H', xs[n]? = some x → Pv n σ' H' → ∀ H1, Ex H' H1 → tu { D with nx := Pv (n + 1), ct := Pv (n + 1), bk := D.nx } ((σ'.set i (some (.int (n : Nat)))).set j (some x)) H1) (hd : ∀ σ' H', Pv xs.length σ' H' → D.nx σ' H') :
    tFor (iEnum K (tCons tl tNil)) (g2 K i j) tu D σ H :=
  h H (Ex.refl H) _ fun H1 e => ⟨a, xs, rfl, ex_l e hx, for_Ite Pv (h0 H1 e) hl hs hd⟩
theorem s_forEnC {a : Addr} {xs : List V} {tl : TE} {c : Int} {i j : Nat} (h : Ev tl σ H (.ref a)) (hx : SqL K H a xs) (Pv : Nat → L2.St → Hp → Prop) (h0 : ∀ H1, Ex H H1 → Pv 0 σ H1) (hl : ∀ n σ' H', n ≤ xs.length → Pv n σ' H' → SqL K H' a xs)
    (hs : ∀ n x σ' H', xs[n]? = some x → Pv n σ' H' → ∀ H1, Ex H' H1 → tu { D with nx := Pv (n + 1), ct := Pv (n + 1), bk := D.nx } ((σ'.set i (some (.int (c + (n : Nat))))).set j (some x)) H1) (hd : ∀ σ' H', Pv xs.length σ' H' → D.nx σ' H') :
    tFor (iEnumC K (tCons tl tNil) c) (g2 K i j) tu D σ H :=
  h H (Ex.refl H) _ fun H1 e => ⟨a, xs, rfl, ex_l e hx, for_Itn Pv (h0 H1 e) hl hs hd⟩
theorem s_forNEnC {xs : List V} {tl : TE} {c : Int} {i j : Nat} (h : EvL tl σ H xs) (Pv : Addr → Nat → L2.St → Hp → Prop) (h0 : ∀ p H1, H p = none → Ex H H1 → H1 p = some (.lst xs) → Pv p 0 σ H1) (hl : ∀ p n σ' H', n ≤ xs.length → Pv p n σ' H' → SqL K H' p xs)
    (hs : ∀ p n x σ' H', xs[n]? = some x → Pv p n σ' H' → ∀ H1, Ex H' H1 → tu { D with nx := Pv p (n + 1), ct := Pv p (n + 1), bk := D.nx } ((σ'.set i (some (.int (c + (n : Nat))))).set j (some x)) H1) (hd : ∀ p σ' H', Pv p xs.length σ' H' → D.nx σ' H') :
    tFor (iEnumC K (tCons tl tNil) c) (g2 K i j) tu D σ H :=
  h H (Ex.refl H) _ fun p H1 hp e h1 => ⟨p, xs, rfl, sq_of h1, for_Itn (Pv p) (h0 p H1 hp e h1) (hl p) (hs p) (hd p)⟩

/-- [e for i, x in enumerate(xs, start=c) if ..] of pure parts -/
theorem lc_Itn {a : Addr} {xs : List V} {c : Int} {i j : Nat} {vs : List Nat} {H1 : Hp} {Dl : Addr} {Qd : Hp → Prop} (f : Nat → Bool) (v : Nat → V) (hD : H1 Dl = none) (hx : SqL K H1 a xs) (hz : xs.length ≤ 40000)
    (hw : ∀ x y, wipe (((wipe σ vs).set i (some x)).set j (some y)) vs = wipe σ vs)
    (ht : ∀ (n : Nat) x H2, Ex H1 H2 → xs[n]? = some x → EvT t (((wipe σ vs).set i (some (.int (c + (n : Nat))))).set j (some x)) H2 (f n))
    (he : ∀ (n : Nat) x H2, Ex H1 H2 → xs[n]? = some x → f n = true → Ev te (((wipe σ vs).set i (some (.int (c + (n : Nat))))).set j (some x)) H2 (v n)) (hd : ∀ H', Cw H1 f v Dl xs.length H' → Qd H') :
    ∃ W : Nat → Nat → Hp → Prop, (∃ m, W 0 m (upd H1 Dl (.lst []))) ∧ ∀ n m H, W n m H →
      ((Itn K a c).stop n H ∧ Qd H) ∨ ((Itn K a c).go n H ∧ ∃ Nx : Hp → Prop, (∀ H', Nx H' → ∃ m', m' < m ∧ W (n + 1) m' H') ∧ ∀ x H', (Itn K a c).yld n H x H' → g2 K i j x (wipe σ vs) H' fun σ2 H2 => wipe σ2 vs = wipe σ vs ∧ t σ2 H2 fun b H3 =>
        if b = true then te σ2 H3 fun y H4 => ∃ acc, H4 Dl = some (.lst acc) ∧ acc.length < sizeLine ∧ Nx (upd H4 Dl (.lst (acc ++ [y]))) else Nx H3) := by
  refine ⟨fun n m H => m = xs.length - n ∧ n ≤ xs.length ∧ Cw H1 f v Dl n H, ⟨xs.length, by simp, Nat.zero_le _, hD, Ex.new hD, upd_same⟩, ?_⟩
  rintro n m H ⟨rfl, hi, p⟩
  have q := ex_l p.2.1 hx
  by_cases hlt : n < xs.length
  · refine .inr ⟨⟨xs, xs[n], q, by simp [hlt]⟩, Cw H1 f v Dl (n + 1), fun H' p' => ⟨xs.length - (n + 1), by omega, rfl, hlt, p'⟩, ?_⟩
    rintro w H' ⟨T, x, rfl, nT, rfl, hg⟩
    have e1 := Ex.new (o := .tup [.int (c + (n : Nat)), x]) nT
    have gx := hg xs q
    refine g2_go upd_same ⟨hw _ _, cw_turn ⟨p.1, p.2.1.trans e1, e1 _ _ p.2.2⟩ (by omega) (ht n x H1 (Ex.refl H1) gx) (he n x H1 (Ex.refl H1) gx)⟩
  · have e : n = xs.length := by omega
    subst e
    exact .inl ⟨⟨xs, q, rfl⟩, hd H p⟩
theorem el_lcEnC {a : Addr} {xs : List V} {tl : TE} {c : Int} {i j : Nat} {vs : List Nat} (f : Nat → Bool) (v : Nat → V) (h : Ev tl σ H (.ref a)) (hx : SqL K H a xs) (hz : xs.length ≤ 40000)
    (hw : ∀ x y, wipe (((wipe σ vs).set i (some x)).set j (some y)) vs = wipe σ vs)
    (ht : ∀ (n : Nat) x H1, Ex H H1 → xs[n]? = some x → EvT t (((wipe σ vs).set i (some (.int (c + (n : Nat))))).set j (some x)) H1 (f n))
    (he : ∀ (n : Nat) x H1, Ex H H1 → xs[n]? = some x → f n = true → Ev te (((wipe σ vs).set i (some (.int (c + (n : Nat))))).set j (some x)) H1 (v n)) :
    EvL (tLc (iEnumC K (tCons tl tNil) c) (g2 K i j) t te vs) σ H (given xs.length f v) := fun H0 e Q q => h H0 e _ fun H1 e1 => ⟨a, xs, rfl, ex_l (e.trans e1) hx, fun Dl hD =>
  lc_Itn f v hD (ex_l (e.trans e1) hx) hz hw (fun n x H2 e2 gx => ht n x H2 ((e.trans e1).trans e2) gx) (fun n x H2 e2 gx hf => he n x H2 ((e.trans e1).trans e2) gx hf) fun H' p => q Dl H' (fresh_back e1 p.1) (e1.trans p.2.1) p.2.2⟩
theorem el_lcNEnC {xs : List V} {tl : TE} {c : Int} {i j : Nat} {vs : List Nat} (f : Nat → Bool) (v : Nat → V) (h : EvL tl σ H xs) (hz : xs.length ≤ 40000)
    (hw : ∀ x y, wipe (((wipe σ vs).set i (some x)).set j (some y)) vs = wipe σ vs)
    (ht : ∀ (n : Nat) x H1, Ex H H1 → xs[n]? = some x → EvT t (((wipe σ vs).set i (some (.int (c + (n : Nat))))).set j (some x)) H1 (f n))
    (he : ∀ (n : Nat) x H1, Ex H H1 → xs[n]? = some x → f n = true → Ev te (((wipe σ vs).set i (some (.int (c + (n : Nat))))).set j (some x)) H1 (v n)) :
    EvL (tLc (iEnumC K (tCons tl tNil) c) (g2 K i j) t te vs) σ H (given xs.length f v) := fun H0 e Q q => h H0 e _ fun a H1 ha e1 h1 => ⟨a, xs, rfl, sq_of h1, fun Dl hD =>
  lc_Itn f v hD (sq_of h1) hz hw (fun n x H2 e2 gx => ht n x H2 ((e.trans e1).trans e2) gx) (fun n x H2 e2 gx hf => he n x H2 ((e.trans e1).trans e2) gx hf) fun H' p => q Dl H' (fresh_back e1 p.1) (e1.trans p.2.1) p.2.2⟩
/-- [e for x, y in zip(xs, ys)] of pure parts -/
theorem el_lcZ {a b : Addr} {xs ys : List V} {tl tr : TE} {i j : Nat} {vs : List Nat} (v : Nat → V) (h : Ev tl σ H (.ref a)) (h' : Ev tr σ H (.ref b)) (hx : SqL K H a xs) (hy : SqL K H b ys) (hz : xs.length ≤ 40000)
    (hw : ∀ x y, wipe (((wipe σ vs).set i (some x)).set j (some y)) vs = wipe σ vs)
    (he : ∀ (n : Nat) x y H1, Ex H H1 → xs[n]? = some x → ys[n]? = some y → Ev te (((wipe σ vs).set i (some x)).set j (some y)) H1 (v n)) :
    EvL (tLc (iZip K (tCons tl (tCons tr tNil))) (g2 K i j) tYes te vs) σ H (given (min xs.length ys.length) (fun _ => true) v) := fun H0 e Q q => h H0 e _ fun H1 e1 => h' H1 (e.trans e1) _ fun H2 e2 => by
  have ee := (e.trans e1).trans e2
  refine ⟨a, b, xs, ys, rfl, ex_l ee hx, ex_l ee hy, fun Dl hD => ?_⟩
  refine ⟨fun n m H => m = min xs.length ys.length - n ∧ n ≤ min xs.length ys.length ∧ Cw H2 (fun _ => true) v Dl n H, ⟨min xs.length ys.length, by simp, Nat.zero_le _, hD, Ex.new hD, upd_same⟩, ?_⟩
  rintro n m H ⟨rfl, hi, p⟩
  have qx := ex_l (ee.trans p.2.1) hx
  have qy := ex_l (ee.trans p.2.1) hy
  by_cases hlt : n < min xs.length ys.length
  · have h1 : n < xs.length := by omega
    have h2 : n < ys.length := by omega
    refine .inr ⟨⟨xs, ys, xs[n], ys[n], qx, qy, by simp [h1], by simp [h2]⟩, Cw H2 (fun _ => true) v Dl (n + 1), fun H' p' => ⟨min xs.length ys.length - (n + 1), by omega, rfl, hlt, p'⟩, ?_⟩
    rintro w H' ⟨T, x, y, rfl, nT, rfl, gx, gy⟩
    have e3 := Ex.new (o := .tup [x, y]) nT
    refine g2_go upd_same ⟨hw _ _, cw_turn ⟨p.1, p.2.1.trans e3, e3 _ _ p.2.2⟩ (by omega) (fun H3 _ Q q => q H3 (Ex.refl H3)) fun _ => he n x y H2 ee (gx xs qx) (gy ys qy)⟩
  · have e' : n = min xs.length ys.length := by omega
    subst e'
    exact .inl ⟨⟨xs, ys, qx, qy, by omega⟩, q Dl H (fresh_back (e1.trans e2) p.1) ((e1.trans e2).trans p.2.1) p.2.2⟩
end
end Bk
namespace Bk
open PySem PySem.Spec PyProof.Rows L2 Evl

section
variable {K : PySem.W.Frag} {σ : L2.St} {H H' : Hp} {ta tb te tc : TE} {t u : TT} {x y z v : V}
theorem ev_chain {r r' : R2} {w : V} {a b : Bool} (ha : Ev ta σ H x) (hb : Ev tb σ H y) (h1 : RV r x y H (.bl a)) (hc : a = true → Ev tc σ H w) (h2 : a = true → RV r' y w H (.bl b)) : Ev (tChain r r' ta tb tc) σ H (.bl (a && b)) := fun H1 e Q q =>
  ha H1 e _ fun H2 e2 => hb H2 (e.trans e2) _ fun H3 e3 => h1 H3 ((e.trans e2).trans e3) _ fun H4 e4 => ⟨a, rfl, by
    have ee := ((e.trans e2).trans e3).trans e4
    cases a with
    | false =>
      refine iteF ?_
      exact q H4 ((e2.trans e3).trans e4)
    | true =>
      refine iteT ?_
      exact hc rfl H4 ee _ fun H5 e5 => h2 rfl H5 (ee.trans e5) _ fun H6 e6 => q H6 ((((e2.trans e3).trans e4).trans e5).trans e6)⟩
/-- [0] * n and its like -/
theorem el_rep {xs : List V} {n : Int} (ha : EvL ta σ H xs) (hb : ∀ H1, Ex H H1 → Ev tb σ H1 (.int n)) (h0 : 0 ≤ n) (hz : xs.length * n.toNat ≤ 100000) (hn : n ≤ 100000) : EvL (tOp rRep ta tb) σ H (List.replicate n.toNat xs).flatten := fun H1 e Q q =>
  ha H1 e _ fun p H2 hp e2 h2 => hb H2 (e.trans e2) H2 (Ex.refl H2) _ fun H3 e3 => ⟨p, n, xs, rfl, rfl, e3 _ _ h2, by omega, by omega, sz_of hz, fun l hl => q l _ (fresh_back (e2.trans e3) hl) ((e2.trans e3).trans (Ex.new hl)) upd_same⟩
theorem el_ofL {p : Addr} {xs : List V} (ha : Ev ta σ H (.ref p)) (h : SqL K H p xs) : EvL (tCB (fun xs H Q => ∃ p ys, xs = [.ref p] ∧ (SqL K H p ys ∨ SqT K H p ys) ∧ ∀ l, H l = none → Q (.ref l) (upd H l (.lst ys))) (tCons ta tNil)) σ H xs := el_list ha h
/-- list(range(a, b)) -/
theorem el_rg1 {n : Int} (ha : Ev ta σ H (.int n)) (h0 : 0 ≤ n) (hn : n ≤ 100000) : EvL (tLstRg (tRg1 ta)) σ H (rgV 0 n) := fun H1 e Q q =>
  ha H1 e _ fun H2 e2 => ⟨n, rfl, RgOk.of_le (by omega) (by omega) (by omega) h0, fun l hl => q l _ (fresh_back e2 hl) (e2.trans (Ex.new hl)) upd_same⟩
theorem ev_lenT {p : Addr} {xs : List V} (ha : Ev ta σ H (.ref p)) (h : SqT K H p xs) : Ev (tCB (rLenS K) (tCons ta tNil)) σ H (.int (xs.length : Int)) := fun H1 e Q q =>
  ha H1 e _ fun H2 e2 => ⟨p, xs, rfl, Or.inr (ex_t (e.trans e2) h), q H2 e2⟩
theorem ev_lenNT {xs : List V} (ha : EvU ta σ H xs) : Ev (tCB (rLenS K) (tCons ta tNil)) σ H (.int (xs.length : Int)) := fun H1 e Q q =>
  ha H1 e _ fun p H2 _ e2 h2 => ⟨p, xs, rfl, Or.inr (st_of h2), q H2 e2⟩
/-- repr of lists and tuples of ints -/
theorem ev_reprL {p : Addr} {ns : List Int} (ha : Ev ta σ H (.ref p)) (h : SqL K H p (vi ns)) (hw : wide 1900 ns) (hz : ns.length ≤ 4000) : Ev (tCB (rRepr K) (tCons ta tNil)) σ H (.str (PyData.list (di ns)).shown) := fun H1 e Q q =>
  ha H1 e _ fun H2 e2 => repr_l (ex_l (e.trans e2) h) hw hz (q H2 e2)
theorem ev_reprNL {ns : List Int} (ha : EvL ta σ H (vi ns)) (hw : wide 1900 ns) (hz : ns.length ≤ 4000) : Ev (tCB (rRepr K) (tCons ta tNil)) σ H (.str (PyData.list (di ns)).shown) := fun H1 e Q q =>
  ha H1 e _ fun p H2 _ e2 h2 => repr_l (sq_of h2) hw hz (q H2 e2)
theorem ev_reprT {p : Addr} {ns : List Int} (ha : Ev ta σ H (.ref p)) (h : SqT K H p (vi ns)) (hw : wide 1900 ns) (hz : ns.length ≤ 4000) : Ev (tCB (rRepr K) (tCons ta tNil)) σ H (.str (PyData.tuple (di ns)).shown) := fun H1 e Q q =>
  ha H1 e _ fun H2 e2 => repr_t (ex_t (e.trans e2) h) hw hz (q H2 e2)
theorem ev_reprNT {ns : List Int} (ha : EvU ta σ H (vi ns)) (hw : wide 1900 ns) (hz : ns.length ≤ 4000) : Ev (tCB (rRepr K) (tCons ta tNil)) σ H (.str (PyData.tuple (di ns)).shown) := fun H1 e Q q =>
  ha H1 e _ fun p H2 _ e2 h2 => repr_t (st_of h2) hw hz (q H2 e2)
/-- == and != of data -/
theorem rv_eqL {p q : Addr} {ns ms : List Int} (h : SqL K H p (vi ns)) (h' : SqL K H q (vi ms)) : RV (rEqD K) (.ref p) (.ref q) H (.bl (decide (ns = ms))) := fun H1 e Q k =>
  ⟨_, _, dp_lst (ex_l e h), dp_lst (ex_l e h'), shaped_l ns, shaped_l ms, by rw [eqv_l]; exact k H1 (Ex.refl H1)⟩
theorem rv_neL {p q : Addr} {ns ms : List Int} (h : SqL K H p (vi ns)) (h' : SqL K H q (vi ms)) : RV (rNeD K) (.ref p) (.ref q) H (.bl (!decide (ns = ms))) := fun H1 e Q k =>
  ⟨_, _, dp_lst (ex_l e h), dp_lst (ex_l e h'), shaped_l ns, shaped_l ms, by rw [eqv_l]; exact k H1 (Ex.refl H1)⟩
/-- a new tuple from a call -/
def SpU (sp : Sp) (vs : List V) (H : Hp) (xs : List V) : Prop := ∀ H1, Ex H H1 → ∀ Q : VK, (∀ p H2, H1 p = none → Ex H1 H2 → H2 p = some (.tup xs) → Q (.ref p) H2) → ∀ E : XK, sp vs H1 Q E
theorem eu_call {sp : Sp} {dvs vs xs : List V} {E : XK} {ta : TA} (h : EvA ta σ H vs) (hs : SpU sp (vs ++ dvs) H xs) : EvU (tCall sp dvs E ta) σ H xs := fun H1 e Q q =>
  h H1 e _ fun H2 e2 => hs H2 (e.trans e2) Q (fun p H3 hp e3 h3 => q p H3 (fresh_back e2 hp) (e2.trans e3) h3) E
theorem eu_callK {sp : Sp} {gV : List V → List V → List V} {vs zs xs : List V} {E : XK} {ta tk : TA} (h : EvA ta σ H vs) (h' : EvA tk σ H zs) (hs : SpU sp (gV vs zs) H xs) : EvU (tCallK sp gV E ta tk) σ H xs := fun H1 e Q q =>
  h H1 e _ fun H2 e2 => h' H2 (e.trans e2) _ fun H3 e3 => hs H3 ((e.trans e2).trans e3) Q (fun p H4 hp e4 h4 => q p H4 (fresh_back (e2.trans e3) hp) ((e2.trans e3).trans e4) h4) E
theorem el_callK {sp : Sp} {gV : List V → List V → List V} {vs zs xs : List V} {E : XK} {ta tk : TA} (h : EvA ta σ H vs) (h' : EvA tk σ H zs) (hs : SpL sp (gV vs zs) H xs) : EvL (tCallK sp gV E ta tk) σ H xs := fun H1 e Q q =>
  h H1 e _ fun H2 e2 => h' H2 (e.trans e2) _ fun H3 e3 => hs H3 ((e.trans e2).trans e3) Q (fun p H4 hp e4 h4 => q p H4 (fresh_back (e2.trans e3) hp) ((e2.trans e3).trans e4) h4) E
theorem ev_callK {sp : Sp} {gV : List V → List V → List V} {vs zs : List V} {E : XK} {ta tk : TA} (h : EvA ta σ H vs) (h' : EvA tk σ H zs) (hs : SpV sp (gV vs zs) H z) : Ev (tCallK sp gV E ta tk) σ H z := fun H1 e Q q =>
  h H1 e _ fun H2 e2 => h' H2 (e.trans e2) _ fun H3 e3 => hs H3 ((e.trans e2).trans e3) Q (fun H4 e4 => q H4 ((e2.trans e3).trans e4)) E
/-- an argument that is a new list, then a call -/
theorem eu_callL {sp : Sp} {xs ys : List V} {E : XK} (h : EvL ta σ H xs) (hs : ∀ p H1, Ex H H1 → H1 p = some (.lst xs) → SpU sp [.ref p] H1 ys) : EvU (tCall sp [] E (tCons ta tNil)) σ H ys := fun H1 e Q q =>
  h H1 e _ fun p H2 hp e2 h2 => hs p H2 (e.trans e2) h2 H2 (Ex.refl H2) Q (fun r H3 hr e3 h3 => q r H3 (fresh_back e2 hr) (e2.trans e3) h3) E
theorem el_callL {sp : Sp} {xs ys : List V} {E : XK} (h : EvL ta σ H xs) (hs : ∀ p H1, Ex H H1 → H1 p = some (.lst xs) → SpL sp [.ref p] H1 ys) : EvL (tCall sp [] E (tCons ta tNil)) σ H ys := fun H1 e Q q =>
  h H1 e _ fun p H2 hp e2 h2 => hs p H2 (e.trans e2) h2 H2 (Ex.refl H2) Q (fun r H3 hr e3 h3 => q r H3 (fresh_back e2 hr) (e2.trans e3) h3) E
theorem ev_callL {sp : Sp} {xs : List V} {E : XK} (h : EvL ta σ H xs) (hs : ∀ p H1, Ex H H1 → H1 p = some (.lst xs) → SpV sp [.ref p] H1 z) : Ev (tCall sp [] E (tCons ta tNil)) σ H z := fun H1 e Q q =>
  h H1 e _ fun p H2 hp e2 h2 => hs p H2 (e.trans e2) h2 H2 (Ex.refl H2) Q (fun H3 e3 => q H3 (e2.trans e3)) E
theorem ev_callU {sp : Sp} {xs : List V} {E : XK} (h : EvU ta σ H xs) (hs : ∀ p H1, Ex H H1 → H1 p = some (.tup xs) → SpV sp [.ref p] H1 z) : Ev (tCall sp [] E (tCons ta tNil)) σ H z := fun H1 e Q q =>
  h H1 e _ fun p H2 hp e2 h2 => hs p H2 (e.trans e2) h2 H2 (Ex.refl H2) Q (fun H3 e3 => q H3 (e2.trans e3)) E
def RetU (xs : List V) (H : Hp) (Q : VK) : Prop := ∀ p H2, H p = none → Ex H H2 → H2 p = some (.tup xs) → Q (.ref p) H2
end

/-! ### a well: three ints, of which draws are made -/
def Well (H : Hp) (a : Addr) (n : Nat) : Prop := ∃ x y c : Int, H a = some (.lst [.int x, .int y, .int c]) ∧ 0 ≤ y ∧ y < 2 ^ 200 ∧ 0 ≤ c ∧ c ≤ n
theorem Well.mono {H : Hp} {a : Addr} {n m : Nat} (h : Well H a n) (l : n ≤ m) : Well H a m := by
  obtain ⟨x, y, c, h1, h2, h3, h4, h5⟩ := h
  exact ⟨x, y, c, h1, h2, h3, h4, by omega⟩
theorem Well.ex {H H' : Hp} {a : Addr} {n : Nat} (h : Well H a n) (e : Ex H H') : Well H' a n := by
  obtain ⟨x, y, c, h1, h2⟩ := h
  exact ⟨x, y, c, e _ _ h1, h2⟩
theorem Well.ne {H : Hp} {a p : Addr} {n : Nat} (h : Well H a n) (hp : H p = none) : p ≠ a := by
  obtain ⟨x, y, c, h1, h2⟩ := h
  exact (ne_of_none h1 hp).symm
/-- the promise of a draw -/
def sp_dr (K : PySem.W.Frag) : Sp := fun vs H Q _ => ∃ (a : Addr) (n : Nat) (m : Int), vs = [.ref a, .int m] ∧ Well H a n ∧ n + 1 ≤ 2 ^ 50 ∧ 0 < m ∧ m < 2 ^ 8000 ∧
  ∀ (r : Int) (H2 : Hp), But a H H2 → Well H2 a (n + 1) → 0 ≤ r → r < m → Q (.int r) H2
/-- without the well -/
def hid (a : Addr) (H : Hp) : Hp := fun b => if b = a then none else H b
theorem hid_ne {a b : Addr} {H : Hp} (h : b ≠ a) : hid a H b = H b := if_neg h
theorem ex_hid {a : Addr} {H H1 : Hp} (x : But a H H1) : Ex (hid a H) H1 := fun b o h => by
  by_cases c : b = a
  · rw [c] at h
    unfold hid at h
    rw [if_pos rfl] at h
    cases h
  · rw [hid_ne c] at h
    exact x b o c h
theorem But.ex {a : Addr} {H H1 : Hp} (x : Ex H H1) : But a H H1 := fun b o _ h => x b o h
/-- what evaluates, drawing d times, to something of which P -/
def EvW (a : Addr) (d : Nat) (te : TE) (σ : L2.St) (H : Hp) (P : V → Prop) : Prop := ∀ (n : Nat) (H1 : Hp), But a H H1 → Well H1 a n → n + d ≤ 2 ^ 50 → ∀ Q : VK, (∀ v H2, But a H1 H2 → Well H2 a (n + d) → P v → Q v H2) → te σ H1 Q
def EvWL (a : Addr) (d : Nat) (te : TE) (σ : L2.St) (H : Hp) (P : List V → Prop) : Prop := ∀ (n : Nat) (H1 : Hp), But a H H1 → Well H1 a n → n + d ≤ 2 ^ 50 → ∀ Q : VK, (∀ p xs H2, H1 p = none → But a H1 H2 → Well H2 a (n + d) → H2 p = some (.lst xs) → P xs → Q (.ref p) H2) → te σ H1 Q
section
variable {K : PySem.W.Frag} {σ : L2.St} {H : Hp} {ta tb te ti tl : TE} {a : Addr} {d d1 d2 : Nat} {P P1 P2 : V → Prop} {v : V}
theorem EvW.mono (x : EvW a d te σ H P) (h : ∀ v, P v → P1 v) : EvW a d te σ H P1 := fun n H1 b w l Q q => x n H1 b w l Q fun v H2 b2 w2 p => q v H2 b2 w2 (h v p)
theorem ew_pure (h : Ev te σ (hid a H) v) (p : P v) : EvW a 0 te σ H P := fun n H1 b w l Q q => h H1 (ex_hid b) Q fun H2 e2 => q v H2 (But.ex e2) (w.ex e2) p
theorem ew_op {r : R2} (h1 : EvW a d1 ta σ H P1) (h2 : EvW a d2 tb σ H P2) (hr : ∀ x y, P1 x → P2 y → ∃ z, (∀ H, RV r x y H z) ∧ P z) : EvW a (d1 + d2) (tOp r ta tb) σ H P := fun n H1 b w l Q q =>
  h1 n H1 b w (by omega) _ fun x H2 b2 w2 p => h2 (n + d1) H2 (b.trans b2) w2 (by omega) _ fun y H3 b3 w3 p' => by
    obtain ⟨z, hz, pz⟩ := hr x y p p'
    refine hz H3 H3 (Ex.refl H3) Q fun H4 e4 => q z H4 ((b2.trans b3).trans (But.ex e4)) ?_ pz
    have w4 := w3.ex e4
    rw [Nat.add_assoc] at w4
    exact w4
/-- draw(well, e) -/
theorem ew_draw {i : Nat} {E : XK} (hσ : σ[i]? = some (some (.ref a))) (h : EvW a d te σ H P) (hP : ∀ v, P v → ∃ m : Int, v = .int m ∧ 0 < m ∧ m < 2 ^ 8000) :
    EvW a (d + 1) (tCall (sp_dr K) [] E (tCons (tVar i) (tCons te tNil))) σ H (fun v => ∃ m r : Int, P (.int m) ∧ v = .int r ∧ 0 ≤ r ∧ r < m) := fun n H1 b w l Q q => by
  refine ⟨.ref a, hσ, ?_⟩
  refine h n H1 b w (by omega) _ fun x H2 b2 w2 p => ?_
  obtain ⟨m, rfl, h0, h1⟩ := hP x p
  refine ⟨a, n + d, m, rfl, w2, by omega, h0, h1, fun r H3 b3 w3 r0 r1 => q _ H3 (b2.trans b3) ?_ ⟨m, r, p, rfl, r0, r1⟩⟩
  exact w3
/-- draw(well, m) -/
theorem ew_drawC {i : Nat} {E : XK} {m : Int} (hσ : σ[i]? = some (some (.ref a))) (h : Ev te σ (hid a H) (.int m)) (h0 : 0 < m) (h1 : m < 2 ^ 8000) :
    EvW a 1 (tCall (sp_dr K) [] E (tCons (tVar i) (tCons te tNil))) σ H (fun v => ∃ r : Int, v = .int r ∧ 0 ≤ r ∧ r < m) :=
  (ew_draw hσ (ew_pure (P := fun v => v = .int m) h rfl) fun v e => ⟨m, e, h0, h1⟩).mono fun v ⟨m', r, e, ev, r0, r1⟩ => by
    cases e
    exact ⟨r, ev, r0, r1⟩
/-- [..][e] with the list made ahead -/
theorem ew_ix {xs : List V} (hl : EvL tl σ (hid a H) xs) (hi : EvW a d ti σ H P) (hP : ∀ v, P v → ∃ (i : Int) (x : V), v = .int i ∧ atI xs i = some x ∧ P1 x) : EvW a d (tOp (rIxL K) tl ti) σ H P1 := fun n H1 b w l Q q =>
  hl H1 (ex_hid b) _ fun p H2 hp e2 h2 => hi n H2 (b.trans (But.ex e2)) (w.ex e2) l _ fun v H3 b3 w3 pv => by
    obtain ⟨i, x, rfl, hx, px⟩ := hP v pv
    exact ⟨p, xs, i, x, rfl, rfl, sq_of (b3 p _ (w.ne hp) h2), hx, q x H3 ((But.ex e2).trans b3) w3 px⟩
/-- an own value's wish: e + e' of ints -/
theorem ew_add {P1 P2 P : Int → Prop} (h1 : EvW a d1 ta σ H (fun v => ∃ r, v = .int r ∧ P1 r)) (h2 : EvW a d2 tb σ H (fun v => ∃ r, v = .int r ∧ P2 r)) (h : ∀ x y, P1 x → P2 y → P (x + y)) :
    EvW a (d1 + d2) (tOp (rI0 fun i j => .int (i + j)) ta tb) σ H (fun v => ∃ r, v = .int r ∧ P r) :=
  ew_op h1 h2 fun x y ⟨i, ei, p⟩ ⟨j, ej, p'⟩ => ⟨.int (i + j), fun H => by
    rw [ei, ej]
    exact rv_I0, i + j, rfl, h i j p p'⟩
theorem ew_c {i : Int} {P : Int → Prop} (p : P i) : EvW a 0 (tC (.int i)) σ H (fun v => ∃ r, v = .int r ∧ P r) := ew_pure ev_c ⟨i, rfl, p⟩
theorem ew_v {j : Nat} {i : Int} {P : Int → Prop} (h : σ[j]? = some (some (.int i))) (p : P i) : EvW a 0 (tVar j) σ H (fun v => ∃ r, v = .int r ∧ P r) := ew_pure (ev_var h) ⟨i, rfl, p⟩
/-! statements -/
variable {D : Ends} {tu tw tz : TS} {n : Nat}
theorem sw_asg {i : Nat} (h : EvW a d te σ H P) (w : Well H a n) (l : n + d ≤ 2 ^ 50) (k : ∀ v H1, But a H H1 → Well H1 a (n + d) → P v → D.nx (σ.set i (some v)) H1) : tAsg te (gName i) D σ H :=
  h n H (But.refl a H) w l _ fun v H2 b2 w2 p => k v H2 b2 w2 p
theorem qw_asg {i : Nat} (h : EvW a d te σ H P) (w : Well H a n) (l : n + d ≤ 2 ^ 50) (k : ∀ v H1, But a H H1 → Well H1 a (n + d) → P v → tz D (σ.set i (some v)) H1) : tSeq (tAsg te (gName i)) tz D σ H :=
  sw_asg (D := { D with nx := tz D }) h w l k
theorem qw_if {te : TE} (h : EvW a d te σ H (fun v => ∃ b, v = .bl b)) (w : Well H a n) (l : n + d ≤ 2 ^ 50) (k1 : ∀ H1, But a H H1 → Well H1 a (n + d) → tu { D with nx := tz D } σ H1)
    (k2 : ∀ H1, But a H H1 → Well H1 a (n + d) → tw { D with nx := tz D } σ H1) : tSeq (tIfS (tTest te) tu tw) tz D σ H :=
  h n H (But.refl a H) w l _ fun v H2 b2 w2 ⟨b, e⟩ => ⟨b, e, by
    cases b with
    | true => exact iteT (k1 H2 b2 w2)
    | false => exact iteF (k2 H2 b2 w2)⟩
/-- a test draw(..) == c -/
theorem ew_eq {P1 P2 : Int → Prop} (h1 : EvW a d1 ta σ H (fun v => ∃ r, v = .int r ∧ P1 r)) (h2 : EvW a d2 tb σ H (fun v => ∃ r, v = .int r ∧ P2 r)) : EvW a (d1 + d2) (tOp rEq ta tb) σ H (fun v => ∃ b, v = .bl b) :=
  ew_op h1 h2 fun x y ⟨i, ei, p⟩ ⟨j, ej, p'⟩ => ⟨.bl (decide (x = y)), fun H => by
    rw [ei, ej]
    exact rv_eq rfl, _, rfl⟩
end
end Bk
namespace Bk
open PySem PySem.Spec PyProof.Rows L2 Evl

section
variable {K : PySem.W.Frag} {H : Hp}
theorem rv_b {g : Int → Int → Bool} {i j : Int} {b : Bool} (h : g i j = b) : RV (rI0 fun i j => .bl (g i j)) (.int i) (.int j) H (.bl b) := h ▸ rv_I0 (g := fun i j => .bl (g i j))
theorem p10_pos (n : Nat) : 0 < (10 : Int) ^ n := Int.pow_pos (by decide)
theorem cpw {i j : Int} (h : i.natAbs < 2 ^ 250) (h0 : 0 ≤ j) (h1 : j ≤ 64) : CPowW i j := ⟨h0, h1, Nat.lt_of_lt_of_le h (Nat.pow_le_pow_right (by decide) (by decide))⟩
theorem cdw {j : Int} (i : Int) (h : 0 < j) (hb : j.natAbs < 2 ^ 250) : CDivW i j := wide_div h hb (by decide) (by decide)
theorem cdw8 {j : Int} (i : Int) (h : 0 < j) (hb : j < 2 ^ 8000) : CDivW i j := by
  refine wide_div (b := 8000) h ?_ (by decide) (by decide)
  have e : ((j.natAbs : Nat) : Int) = j := Int.natAbs_of_nonneg (by omega)
  have : ((j.natAbs : Nat) : Int) < ((2 ^ 8000 : Nat) : Int) := by
    rw [e, Int.natCast_pow]
    exact hb
  exact Int.ofNat_lt.mp this
theorem lt8000 {m : Int} (h : m < 2 ^ 250) : m < 2 ^ 8000 := by
  have a : ((2 : Nat) ^ 250) ≤ 2 ^ 8000 := Nat.pow_le_pow_right (by decide) (by decide)
  have b : (((2 : Nat) ^ 250 : Nat) : Int) ≤ (((2 : Nat) ^ 8000 : Nat) : Int) := Int.ofNat_le.mpr a
  rw [Int.natCast_pow, Int.natCast_pow] at b
  exact Int.lt_of_lt_of_le h b
/-- left factor small -/
theorem cml {i j : Int} (h : -(2 ^ 64) < i ∧ i < 2 ^ 64) : CMul i j := .inl h
theorem vi_inv {ns : List Int} {i : Nat} {x : V} (h : (vi ns)[i]? = some x) : ∃ m, x = .int m ∧ ns[i]? = some m ∧ ns.getD i 0 = m := by
  rw [List.getElem?_map] at h
  cases g : ns[i]? with
  | none =>
    rw [g] at h
    cases h
  | some m =>
    rw [g] at h
    cases h
    exact ⟨m, rfl, rfl, by rw [List.getD_eq_getElem?_getD, g]; rfl⟩
theorem given_all (n : Nat) (v : Nat → V) : given n (fun _ => true) v = (List.range n).map v := by
  unfold given
  rw [List.filter_eq_self.mpr (fun _ _ => rfl)]
theorem given_ints (n : Nat) (f : Nat → Int) : given n (fun _ => true) (fun i => V.int (f i)) = vi ((List.range n).map f) := by
  rw [given_all]
  unfold vi
  rw [List.map_map]
  rfl
variable {σ : L2.St} {ta tb te : TE} {t u : TT} {D : Ends} {tu tz : TS}
theorem el_is {xs ys : List V} (h : EvL te σ H xs) (e : xs = ys) : EvL te σ H ys := e ▸ h
theorem eu_is {xs ys : List V} (h : EvU te σ H xs) (e : xs = ys) : EvU te σ H ys := e ▸ h
theorem el_lcR2 {ta : TA} {j : Nat} {vs : List Nat} {lo n : Int} (f : Nat → Bool) (v : Nat → V) (h : EvA ta σ H [.int lo, .int n]) (hn : 0 ≤ lo ∧ lo ≤ 40000 ∧ -40000 ≤ n ∧ n ≤ 40000) (hw : ∀ x, wipe ((wipe σ vs).set j (some x)) vs = wipe σ vs)
    (ht : ∀ (i : Nat) H1, Ex H H1 → lo + (i : Int) < n → EvT t ((wipe σ vs).set j (some (.int (lo + (i : Int))))) H1 (f i)) (he : ∀ (i : Nat) H1, Ex H H1 → lo + (i : Int) < n → f i = true → Ev te ((wipe σ vs).set j (some (.int (lo + (i : Int))))) H1 (v i)) :
    EvL (tLc (iRng2 ta) (gName j) t te vs) σ H (given (n - lo).toNat f v) := fun H0 e Q q => h H0 e _ fun H1 e1 => ⟨lo, n, rfl, ⟨by omega, by omega, by omega, by omega⟩, fun Dl hD =>
  lc_range (lo := lo) (n := (n - lo).toNat) (Cw H1 f v Dl) ⟨hD, Ex.new hD, upd_same⟩ (fun i H' hi p =>
    ⟨hw _, cw_turn p (by omega) (ht i H1 (e.trans e1) (by omega)) (fun hf => he i H1 (e.trans e1) (by omega) hf)⟩) (fun H' p => q Dl H' (fresh_back e1 p.1) (e1.trans p.2.1) p.2.2)⟩
theorem et_yes : EvT tYes σ H true := fun H1 _ Q q => q H1 (Ex.refl H1)
/-- xs.extend(ys), ys new -/
theorem s_ext {l : Addr} {xs ys : List V} (hl : H l = some (.lst xs)) (ha : Ev ta σ H (.ref l)) (h : EvL te σ H ys) (hz : xs.length + ys.length ≤ 100000) (k : ∀ H1, Ex H H1 → D.nx σ (upd H1 l (.lst (xs ++ ys)))) :
    tDrop (tBM K "list" rExtend ta (tCons te tNil)) D σ H := ha H (Ex.refl H) _ fun H1 e1 =>
  ⟨Or.inl ⟨rfl, xs, sq_of (e1 l _ hl)⟩, h H1 e1 _ fun p H2 hp e2 h2 => ⟨l, p, xs, ys, rfl, rfl, e2 l _ (e1 l _ hl), h2, sz_of hz, k H2 (e1.trans e2)⟩⟩
theorem q_ext {l : Addr} {xs ys : List V} (hl : H l = some (.lst xs)) (ha : Ev ta σ H (.ref l)) (h : EvL te σ H ys) (hz : xs.length + ys.length ≤ 100000) (k : ∀ H1, Ex H H1 → tz D σ (upd H1 l (.lst (xs ++ ys)))) :
    tSeq (tDrop (tBM K "list" rExtend ta (tCons te tNil))) tz D σ H := s_ext (D := { D with nx := tz D }) hl ha h hz k
theorem q_forEnC {a : Addr} {xs : List V} {tl : TE} {c : Int} {i j : Nat} (h : Ev tl σ H (.ref a)) (hx : SqL K H a xs) (Pv : Nat → L2.St → Hp → Prop) (h0 : ∀ H1, Ex H H1 → Pv 0 σ H1) (hl : ∀ n σ' H', n ≤ xs.length → Pv n σ' H' → SqL K H' a xs)
    (hs : ∀ n x σ' H', xs[n]? = some x → Pv n σ' H' → ∀ H1, Ex H' H1 → tu { D with nx := Pv (n + 1), ct := Pv (n + 1), bk := tz D } ((σ'.set i (some (.int (c + (n : Nat))))).set j (some x)) H1) (hd : ∀ σ' H', Pv xs.length σ' H' → tz D σ' H') :
    tSeq (tFor (iEnumC K (tCons tl tNil) c) (g2 K i j) tu) tz D σ H := s_forEnC (D := { D with nx := tz D }) h hx Pv h0 hl hs hd

/-! ### more with a well -/
theorem ex_but {p : Addr} {H H1 H2 : Hp} (e : Ex H H1) (n : H p = none) (b : But p H1 H2) : Ex H H2 := fun c o h => b c o (ne_of_none h n) (e c o h)
theorem but_fresh {a p : Addr} {H H1 : Hp} {n : Nat} (b : But a H H1) (w : Well H a n) (w1 : Well H1 a n) (h : H1 p = none) : H p = none := by
  cases q : H p with
  | none => rfl
  | some o =>
    rw [b p o (w1.ne h) q] at h
    cases h
theorem but_free {a p : Addr} {H H1 : Hp} {m : Nat} (b : But a H H1) (w1 : Well H1 a m) (h : H1 p = none) : H p = none := b.free (w1.ne h) h
variable {a : Addr} {d d1 d2 n : Nat} {P P1 P2 : V → Prop} {ti tw : TE} {ts : TS}
theorem ew_min2 {P1 P2 P : Int → Prop} (h1 : EvW a d1 ta σ H (fun v => ∃ r, v = .int r ∧ P1 r)) (h2 : EvW a d2 tb σ H (fun v => ∃ r, v = .int r ∧ P2 r)) (h : ∀ x y, P1 x → P2 y → P (if y < x then y else x)) :
    EvW a (d1 + d2) (tCB (fun xs H Q => ∃ i j, xs = [.int i, .int j] ∧ Q (.int (if j < i then j else i)) H) (tCons ta (tCons tb tNil))) σ H (fun v => ∃ r, v = .int r ∧ P r) := fun n H1 b w l Q q =>
  h1 n H1 b w (by omega) _ fun x H2 b2 w2 ⟨i, ei, pi⟩ => h2 (n + d1) H2 (b.trans b2) w2 (by omega) _ fun y H3 b3 w3 ⟨j, ej, pj⟩ => by
    rw [Nat.add_assoc] at w3
    subst ei ej
    exact ⟨i, j, rfl, q _ H3 (b2.trans b3) w3 ⟨_, rfl, h i j pi pj⟩⟩
theorem sw_forR1 {P : Int → Prop} {j : Nat} (h : EvW a d te σ H (fun v => ∃ r, v = .int r ∧ P r)) (hP : ∀ r, P r → 0 ≤ r ∧ r ≤ 100000) (w : Well H a n) (l : n + d ≤ 2 ^ 50) (Pv : Nat → L2.St → Hp → Prop)
    (h0 : ∀ r H1, P r → But a H H1 → Well H1 a (n + d) → Pv 0 σ H1)
    (hs : ∀ r (i : Nat) σ' H', P r → (i : Int) < r → Pv i σ' H' → tu { D with nx := Pv (i + 1), ct := Pv (i + 1), bk := D.nx } (σ'.set j (some (.int (i : Int)))) H')
    (hd : ∀ r σ' H', P r → Pv r.toNat σ' H' → D.nx σ' H') : tFor (iRng1 (tCons te tNil)) (gName j) tu D σ H :=
  h n H (But.refl a H) w l _ fun v H2 b2 w2 ⟨r, er, pr⟩ => by
    subst er
    obtain ⟨r0, r1⟩ := hP r pr
    refine ⟨r, rfl, by omega, by omega, for_range (lo := 0) (n := r.toNat) Pv (h0 r H2 pr b2 w2) (fun i σ' H' hi p => ?_) (fun σ' H' p => hd r σ' H' pr p)⟩
    have e0 : (0 : Int) + (i : Int) = (i : Int) := Int.zero_add _
    show tu { D with nx := Pv (i + 1), ct := Pv (i + 1), bk := D.nx } (σ'.set j (some (.int ((0 : Int) + (i : Int))))) H'
    rw [e0]
    exact hs r i σ' H' pr (by omega) p
theorem qw_forR1 {P : Int → Prop} {j : Nat} (h : EvW a d te σ H (fun v => ∃ r, v = .int r ∧ P r)) (hP : ∀ r, P r → 0 ≤ r ∧ r ≤ 100000) (w : Well H a n) (l : n + d ≤ 2 ^ 50) (Pv : Nat → L2.St → Hp → Prop)
    (h0 : ∀ r H1, P r → But a H H1 → Well H1 a (n + d) → Pv 0 σ H1)
    (hs : ∀ r (i : Nat) σ' H', P r → (i : Int) < r → Pv i σ' H' → tu { D with nx := Pv (i + 1), ct := Pv (i + 1), bk := tz D } (σ'.set j (some (.int (i : Int)))) H')
    (hd : ∀ r σ' H', P r → Pv r.toNat σ' H' → tz D σ' H') : tSeq (tFor (iRng1 (tCons te tNil)) (gName j) tu) tz D σ H :=
  sw_forR1 (D := { D with nx := tz D }) h hP w l Pv h0 hs hd
/-- if draw.. or pure: .. -/
theorem qw_ifOr {b : Bool} (h : EvW a d te σ H (fun v => ∃ b, v = .bl b)) (hb : ∀ H1, But a H H1 → EvT u σ H1 b) (w : Well H a n) (l : n + d ≤ 2 ^ 50)
    (k1 : ∀ H1, But a H H1 → Well H1 a (n + d) → tu { D with nx := tz D } σ H1) (k2 : b = false → ∀ H1, But a H H1 → Well H1 a (n + d) → ts { D with nx := tz D } σ H1) : tSeq (tIfS (tOr (tTest te) u) tu ts) tz D σ H :=
  h n H (But.refl a H) w l _ fun v H2 b2 w2 ⟨c, e⟩ => ⟨c, e, by
    cases c with
    | true => exact iteT (iteT (k1 H2 b2 w2))
    | false =>
      refine iteF ?_
      refine hb H2 b2 H2 (Ex.refl H2) _ fun H3 e3 => ?_
      cases b with
      | true => exact iteT (k1 H3 (b2.trans (But.ex e3)) (w2.ex e3))
      | false => exact iteF (k2 rfl H3 (b2.trans (But.ex e3)) (w2.ex e3))⟩
theorem cut_take (xs : List V) (m : Nat) : cutV xs none (some (m : Int)) = xs.take m := by
  unfold cutV
  rw [HT.sIx_none, HT.sIx_nat, List.drop_zero, Nat.sub_zero]
  by_cases h : m ≤ xs.length
  · rw [Nat.min_eq_left h]
  · rw [Nat.min_eq_right (by omega), List.take_of_length_le (Nat.le_refl _), List.take_of_length_le (by omega)]
theorem flat_rep (n : Nat) (x : Int) : (List.replicate n [V.int x]).flatten = vi (List.replicate n x) := by
  unfold vi
  rw [List.map_replicate, List.flatten_replicate_singleton]
theorem el_slN {tl th : TO} {xs : List V} {lo hi : Option Int} (h : EvL te σ H xs) (h1 : EvO tl σ H lo) (h2 : EvO th σ H hi) : EvL (tSl (rSlL K) te tl th) σ H (cutV xs lo hi) := fun H1 e _ q =>
  h H1 e _ fun a H2 ha e2 hx => h1 H2 (e.trans e2) _ fun H3 e3 => h2 H3 ((e.trans e2).trans e3) _ fun H4 e4 =>
    ⟨a, xs, rfl, sq_of (e4 _ _ (e3 _ _ hx)), fun p hp => q p _ (fresh_back ((e2.trans e3).trans e4) hp) (((e2.trans e3).trans e4).trans (Ex.new hp)) upd_same⟩
theorem sw_asgL {P : List V → Prop} {i : Nat} (h : EvWL a d te σ H P) (w : Well H a n) (l : n + d ≤ 2 ^ 50) (k : ∀ p xs H1, H p = none → But a H H1 → Well H1 a (n + d) → H1 p = some (.lst xs) → P xs → D.nx (σ.set i (some (.ref p))) H1) : tAsg te (gName i) D σ H :=
  h n H (But.refl a H) w l _ fun p xs H2 hp b2 w2 h2 p => k _ xs H2 hp b2 w2 h2 p
theorem qw_asgL {P : List V → Prop} {i : Nat} (h : EvWL a d te σ H P) (w : Well H a n) (l : n + d ≤ 2 ^ 50) (k : ∀ p xs H1, H p = none → But a H H1 → Well H1 a (n + d) → H1 p = some (.lst xs) → P xs → tz D (σ.set i (some (.ref p))) H1) : tSeq (tAsg te (gName i)) tz D σ H :=
  sw_asgL (D := { D with nx := tz D }) h w l k
/-- x, y = a, b -/
theorem q_parLU {i j : Nat} {xs ys : List V} (h1 : EvL ta σ H xs) (h2 : ∀ p H1, H p = none → Ex H H1 → H1 p = some (.lst xs) → EvU tb σ H1 ys) (k : ∀ p q H1, H p = none → H q = none → p ≠ q → Ex H H1 → H1 p = some (.lst xs) → H1 q = some (.tup ys) → tz D ((σ.set i (some (.ref p))).set j (some (.ref q))) H1) :
    tSeq (tPar i j (tCons ta (tCons tb tNil))) tz D σ H :=
  h1 H (Ex.refl H) _ fun p H2 hp e2 g2 => h2 p H2 hp e2 g2 H2 (Ex.refl H2) _ fun q H3 hq e3 g3 => ⟨_, _, rfl, k p q H3 hp (fresh_back e2 hq) (ne_of_none g2 hq) (e2.trans e3) (e3 _ _ g2) g3⟩
theorem q_parLL {i j : Nat} {xs ys : List V} (h1 : EvL ta σ H xs) (h2 : ∀ p H1, H p = none → Ex H H1 → H1 p = some (.lst xs) → EvL tb σ H1 ys) (k : ∀ p q H1, H p = none → H q = none → p ≠ q → Ex H H1 → H1 p = some (.lst xs) → H1 q = some (.lst ys) → tz D ((σ.set i (some (.ref p))).set j (some (.ref q))) H1) :
    tSeq (tPar i j (tCons ta (tCons tb tNil))) tz D σ H :=
  h1 H (Ex.refl H) _ fun p H2 hp e2 g2 => h2 p H2 hp e2 g2 H2 (Ex.refl H2) _ fun q H3 hq e3 g3 => ⟨_, _, rfl, k p q H3 hp (fresh_back e2 hq) (ne_of_none g2 hq) (e2.trans e3) (e3 _ _ g2) g3⟩
theorem q_parVV {i j : Nat} {x y : V} (h1 : Ev ta σ H x) (h2 : Ev tb σ H y) (k : ∀ H1, Ex H H1 → tz D ((σ.set i (some x)).set j (some y)) H1) :
    tSeq (tPar i j (tCons ta (tCons tb tNil))) tz D σ H :=
  h1 H (Ex.refl H) _ fun H2 e2 => h2 H2 e2 _ fun H3 e3 => ⟨_, _, rfl, k H3 (e2.trans e3)⟩
theorem q_parLV {i j : Nat} {xs : List V} {y : V} (h1 : EvL ta σ H xs) (h2 : ∀ p H1, H p = none → Ex H H1 → H1 p = some (.lst xs) → Ev tb σ H1 y) (k : ∀ p H1, H p = none → Ex H H1 → H1 p = some (.lst xs) → tz D ((σ.set i (some (.ref p))).set j (some y)) H1) :
    tSeq (tPar i j (tCons ta (tCons tb tNil))) tz D σ H :=
  h1 H (Ex.refl H) _ fun p H2 hp e2 g2 => h2 p H2 hp e2 g2 H2 (Ex.refl H2) _ fun H3 e3 => ⟨_, _, rfl, k p H3 hp (e2.trans e3) (e3 _ _ g2)⟩
theorem q_parVL {i j : Nat} {xs : List V} {y : V} (h1 : Ev ta σ H y) (h2 : EvL tb σ H xs) (k : ∀ p H1, H p = none → Ex H H1 → H1 p = some (.lst xs) → tz D ((σ.set i (some y)).set j (some (.ref p))) H1) :
    tSeq (tPar i j (tCons ta (tCons tb tNil))) tz D σ H :=
  h1 H (Ex.refl H) _ fun H2 e2 => h2 H2 e2 _ fun p H3 hp e3 g3 => ⟨_, _, rfl, k p H3 (fresh_back e2 hp) (e2.trans e3) g3⟩
end
end Bk
/-! ### sorted of a tuple of ints -/
namespace Bk
open PySem PySem.Spec PyProof.Rows L2 Evl
section
variable {prog : Program} {w : World} {A : Around} {E : Value → Shared → Prop} {s : Shared}
theorem collect_tup {l : Addr} {vs : List Value} {Q : List Value → Shared → Prop} (ht : IsTup s.heap l vs.toArray) (hz : vs.length ≤ sizeLine)
    (h : Q vs { s with heap := (s.heap.push (seqObj "list" #[] 0)).update s.heap.objs.size (Obj.mapSeq (· ++ vs.toArray)) }) : wpAny (model prog w) A (collect (.ref l)) Q E s := by
  obtain ⟨o, ho, hc, n, hd⟩ := ht
  unfold collect
  refine wpAny_bind (wpAny_runValue (codeAny_builtin entry_proto_collect' ?_))
  show wpAny _ _ (newList [] >>= fun r => again (.builtin "list.__iadd__" ⟨[r, .ref l], []⟩)) _ _ s
  refine wpAny_bind (wpAny_newList (wpAny_pure ⟨Code.quiet_builtin _ (by decide +kernel), codeAny_builtin entry_list_iadd' ?_⟩))
  show wpAny _ _ (Builtin.List.listExtendWith (.ref s.heap.objs.size) (.ref l) (.ref s.heap.objs.size)) _ _ { s with heap := s.heap.push (seqObj "list" #[] 0) }
  unfold Builtin.List.listExtendWith
  have ho1 : (s.heap.push (seqObj "list" #[] 0)).get? l = some o := Heap.get?_push_of_some _ ho
  refine wpAny_bind (wpAny_typeOf (T := "tuple") ⟨o, ho1, hc⟩ ?_)
  have e1 : (Value.type "tuple" == Value.type "tuple") = true := by rfl
  rw [if_pos (by rw [e1]; simp)]
  refine wpAny_bind (listItems_at ho1 hd ?_)
  refine wpAny_bind (listItems_at (xs := #[]) (n := 0) (Heap.get?_push_size _ rfl) rfl ?_)
  rw [if_neg (by simp)]
  refine wpAny_bind (listUpdate_at (xs := #[]) (n := 0) (Heap.get?_push_size _ rfl) rfl ?_ (Nat.zero_le _) (by
    show (#[] ++ vs.toArray).size ≤ sizeLine + 1
    simp only [Array.size_append, List.size_toArray, List.length_nil]
    omega))
  refine wpAny_pure ?_
  refine wpAny_bind (wpAny_load (get?_update_seq (Heap.get?_push_size _ rfl) _) ?_)
  have e2 : ((#[] : Array Value) ++ vs.toArray).toList = vs := by simp
  show wpAny _ _ (pure ((#[] : Array Value) ++ vs.toArray).toList) Q E _
  rw [e2]
  exact wpAny_pure h
/-- behind the collecting: the new list is sorted -/
theorem sorted_tup {l : Addr} {vs : List Value} {ns : List Int} {Q : Value → Shared → Prop} (ht : IsTup s.heap l vs.toArray) (hz : vs.length ≤ sizeLine) (hI : IntsAre vs ns)
    (h : ∀ out : List Value, IntsAre out (out.map SrtO.iv) → (out.map SrtO.iv).Perm ns → (out.map SrtO.iv).Pairwise (· ≤ ·) → Q (.ref (s.heap.objs.size + 1)) { s with heap := sortedAll s.heap vs out.toArray }) :
    wpAny (model prog w) A (call (.builtin "sorted") [.ref l]) Q E s := by
  refine Calls.call_function_entry kind_sorted plain_sorted entry_sorted (args_sorted1 _) ?_
  unfold Builtin.«sorted»
  refine wpAny_bind (m := checkCount "sorted" 1 1 _) (wpAny_pure ?_)
  refine wpAny_bind (collect_tup ht hz ?_)
  refine wpAny_bind (wpAny_newList ?_ hz)
  have es : ((s.heap.push (seqObj "list" #[] 0)).update s.heap.objs.size (Obj.mapSeq (· ++ vs.toArray))).objs.size = s.heap.objs.size + 1 := by
    rw [Heap.size_update, size_push']
  have at1 : (((s.heap.push (seqObj "list" #[] 0)).update s.heap.objs.size (Obj.mapSeq (· ++ vs.toArray))).push (seqObj "list" vs.toArray 0)).get? (s.heap.objs.size + 1) = some (seqObj "list" vs.toArray 0) := by
    rw [← es]
    exact Heap.get?_push_size _ rfl
  show wpAny _ _ _ _ _ { s with heap := ((s.heap.push (seqObj "list" #[] 0)).update s.heap.objs.size (Obj.mapSeq (· ++ vs.toArray))).push (seqObj "list" vs.toArray 0) }
  rw [es]
  refine wpAny_bind (wpAny_holding (wpAny_call_entry slot_list_sort ⟨_, at1, rfl⟩ entry_list_sort (SrtO.list_sort_ord SrtO.swo_int at1 hz (fun h2 => SrtO.ints_sortable hI h2) fun out hs hb => ⟨_, rfl, ?_⟩) (args_list_sort _)))
  obtain ⟨k1, k2, k3⟩ := SrtO.ints_out hI hs hb
  exact wpAny_pure ⟨_, rfl, h out k1 k2 k3⟩
end
def rSortedT (K : PySem.W.Frag) : List V → Hp → VK → Prop := fun vs H Q => ∃ (a : Addr) (ns : List Int), vs = [V.ref a] ∧ SqT K H a (vi ns) ∧
  ∀ (ns' : List Int) (p : Addr), ns'.Perm ns → ns'.Pairwise (· ≤ ·) → H p = none → Q (.ref p) (upd H p (.lst (vi ns')))
theorem cr_sortedTup {X : Cx} : CallR X (.builtin "sorted") (rSortedT X.K) := by
  intro pins s σ H vs us Q I r h
  obtain ⟨a, ns, rfl, hs, q⟩ := h
  obtain ⟨its, rv, ht, hz⟩ := I.tuple hs
  rw [Vals.ref1 r]
  have hi := rv.ints
  refine sorted_tup ht (by rw [← rv.length]; exact hz) hi ?_
  intro out k1 k2 k3
  obtain ⟨ep, he'⟩ := PyProof.Rows.sortedAll_at s.heap its out.toArray
  have hlen : (vi (out.map SrtO.iv)).length ≤ sizeLine := by
    rw [List.length_map] at hz
    rw [List.length_map, k2.length_eq]
    exact hz
  exact ⟨.ref _, upd H (s.heap.objs.size + 1) (.lst (vi (out.map SrtO.iv))), I.laid (t' := s.toks) (fun _ _ => PyProof.Rows.sortedAll_old) (Nat.le_succ _) ⟨hlen, out, ep, vals_of_ints k1, he'⟩, rfl, q _ _ k2 k3 (I.hok.fresh (Nat.le_succ _))⟩

/-- the one sorted list -/
theorem sorted_unique {ns ms : List Int} (hp : ns.Perm ms) (h1 : ns.Pairwise (· ≤ ·)) (h2 : ms.Pairwise (· ≤ ·)) : ns = ms := by
  induction ns generalizing ms with
  | nil => exact (List.nil_perm.mp hp).symm
  | cons a r ih =>
    cases ms with
    | nil => exact absurd hp.length_eq (by simp)
    | cons b q =>
      have ha := List.pairwise_cons.mp h1
      have hb := List.pairwise_cons.mp h2
      have e : a = b := by
        have m1 : a ∈ b :: q := hp.mem_iff.mp List.mem_cons_self
        have m2 : b ∈ a :: r := hp.mem_iff.mpr List.mem_cons_self
        have l1 : b ≤ a := by
          rcases List.mem_cons.mp m1 with z | z
          · omega
          · exact hb.1 a z
        have l2 : a ≤ b := by
          rcases List.mem_cons.mp m2 with z | z
          · omega
          · exact ha.1 b z
        omega
      subst e
      rw [ih (List.Perm.cons_inv hp) ha.2 hb.2]

section
variable {K : PySem.W.Frag} {σ : L2.St} {H H' : Hp} {ta tb te tl : TE} {t u : TT} {x y z v : V} {D : Ends} {tu tz : TS}
theorem el_sortedT {p : Addr} {ns ms : List Int} (ha : Ev ta σ H (.ref p)) (h : SqT K H p (vi ns)) (hp : ns.Perm ms) (hm : ms.Pairwise (· ≤ ·)) : EvL (tCB (rSortedT K) (tCons ta tNil)) σ H (vi ms) := fun H1 e Q q =>
  ha H1 e _ fun H2 e2 => ⟨p, ns, rfl, ex_t (e.trans e2) h, fun ns' l k1 k2 hl => by
    rw [sorted_unique (k1.trans hp) k2 hm]
    exact q l _ (fresh_back e2 hl) (e2.trans (Ex.new hl)) upd_same⟩
theorem el_sortedN {ns ms : List Int} (ha : EvL ta σ H (vi ns)) (hp : ns.Perm ms) (hm : ms.Pairwise (· ≤ ·)) : EvL (tCB (rSortedI K) (tCons ta tNil)) σ H (vi ms) := fun H1 e Q q =>
  ha H1 e _ fun p H2 hp2 e2 h2 => ⟨p, ns, rfl, sq_of h2, fun ns' l k1 k2 hl => by
    rw [sorted_unique (k1.trans hp) k2 hm]
    exact q l _ (fresh_back e2 hl) (e2.trans (Ex.new hl)) upd_same⟩
/-- all(..) of a new list of truths -/
theorem ev_allN {bs : List Bool} (ha : EvL ta σ H (bs.map V.bl)) : Ev (tCB (rAll K) (tCons ta tNil)) σ H (.bl (bs.all id)) := fun H1 e Q q =>
  ha H1 e _ fun p H2 hp2 e2 h2 => ⟨p, bs, rfl, sq_of h2, q H2 e2⟩
/-- a comprehension over a tuple -/
theorem el_lcT {a : Addr} {xs : List V} {j : Nat} {vs : List Nat} (f : Nat → Bool) (v : Nat → V) (h : Ev tl σ H (.ref a)) (hx : SqT K H a xs) (hz : xs.length ≤ 40000) (hw : ∀ x, wipe ((wipe σ vs).set j (some x)) vs = wipe σ vs)
    (ht : ∀ (i : Nat) (x : V) H1, Ex H H1 → xs[i]? = some x → EvT t ((wipe σ vs).set j (some x)) H1 (f i)) (he : ∀ (i : Nat) (x : V) H1, Ex H H1 → xs[i]? = some x → f i = true → Ev te ((wipe σ vs).set j (some x)) H1 (v i)) :
    EvL (tLc (iTup K tl) (gName j) t te vs) σ H (given xs.length f v) := fun H0 e Q q => h H0 e _ fun H1 e1 => ⟨a, rfl, ⟨xs, ex_t (e.trans e1) hx⟩, fun Dl hD =>
  lc_tup (xs := xs) (Cw H1 f v Dl) ⟨hD, Ex.new hD, upd_same⟩ (fun i H' _ p => ex_t ((e.trans e1).trans p.2.1) hx) (fun i x H' hi p => ⟨hw x, cw_turn p (by have := (List.getElem?_eq_some_iff.mp hi).1; omega) (ht i x H1 (e.trans e1) hi) (fun hf => he i x H1 (e.trans e1) hi hf)⟩)
    (fun H' p => q Dl H' (fresh_back e1 p.1) (e1.trans p.2.1) p.2.2)⟩
theorem rv_neLN {p q : Addr} {ns ms : List Int} (h : H p = some (.lst (vi ns))) (h' : H q = some (.lst (vi ms))) : RV (rNeD K) (.ref p) (.ref q) H (.bl (!decide (ns = ms))) := rv_neL (sq_of h) (sq_of h')
/-- both operands new -/
theorem ev_neLL {ns ms : List Int} (ha : EvL ta σ H (vi ns)) (hb : EvL tb σ H (vi ms)) : Ev (tOp (rNeD K) ta tb) σ H (.bl (!decide (ns = ms))) :=
  ev_opLL ha hb fun p q H1 hp hq _ => rv_neLN hp hq
theorem ev_eqLL {ns ms : List Int} (ha : EvL ta σ H (vi ns)) (hb : EvL tb σ H (vi ms)) : Ev (tOp (rEqD K) ta tb) σ H (.bl (decide (ns = ms))) :=
  ev_opLL ha hb fun p q H1 hp hq _ => rv_eqL (sq_of hp) (sq_of hq)
/-! shuffles -/
def iota (n : Nat) : List Int := (List.range n).map fun i : Nat => (i : Int)
theorem iota_length (n : Nat) : (iota n).length = n := by simp [iota]
theorem iota_sorted (n : Nat) : (iota n).Pairwise (· ≤ ·) := by
  unfold iota
  rw [List.pairwise_map]
  exact (List.pairwise_lt_range (n := n)).imp fun h => by omega
theorem rgV_iota (n : Nat) : rgV 0 (n : Int) = vi (iota n) := by
  unfold rgV iota vi
  rw [List.map_map]
  have e : ((n : Int) - 0).toNat = n := by omega
  rw [e]
  refine List.map_congr_left fun i _ => ?_
  show V.int (0 + (i : Int)) = V.int (i : Int)
  rw [Int.zero_add]
def Shf (ns : List Int) : Prop := 0 < ns.length ∧ ns.length ≤ 300 ∧ ns.Perm (iota ns.length)
theorem Shf.mem {ns : List Int} (h : Shf ns) {n : Int} (m : n ∈ ns) : 0 ≤ n ∧ n < ns.length := by
  have := h.2.2.mem_iff.mp m
  obtain ⟨i, hi, rfl⟩ := List.mem_map.mp this
  have := List.mem_range.mp hi
  omega
theorem Shf.nodup {ns : List Int} (h : Shf ns) : ns.Nodup := by
  refine h.2.2.symm.nodup ?_
  unfold iota
  show List.Pairwise _ _
  rw [List.pairwise_map]
  exact (List.nodup_range (n := ns.length)).imp fun h e => h (by omega)
theorem Shf.wide {ns : List Int} (h : Shf ns) : wide 1900 ns := (wide_lt (k := 20) (by decide) fun n m => by
  have := h.mem m
  have := h.2.1
  omega).mono (by decide)

theorem vi_erase (ns : List Int) (k : Nat) : (vi ns).eraseIdx k = vi (ns.eraseIdx k) := by
  unfold vi
  induction ns generalizing k with
  | nil => rfl
  | cons a r ih =>
    cases k with
    | zero => rfl
    | succ k =>
      show V.int a :: (r.map V.int).eraseIdx k = V.int a :: (r.eraseIdx k).map V.int
      rw [ih]
theorem vi_set (ns : List Int) (k : Nat) (x : Int) : (vi ns).set k (.int x) = vi (ns.set k x) := by
  unfold vi
  rw [List.map_set]
theorem vi_app (ns ms : List Int) : vi ns ++ vi ms = vi (ns ++ ms) := by
  unfold vi
  rw [List.map_append]
/-- a new tuple, with draws -/
def EvWU (a : Addr) (d : Nat) (te : TE) (σ : L2.St) (H : Hp) (P : List V → Prop) : Prop := ∀ (n : Nat) (H1 : Hp), But a H H1 → Well H1 a n → n + d ≤ 2 ^ 50 → ∀ Q : VK, (∀ p xs H2, H1 p = none → But a H1 H2 → Well H2 a (n + d) → H2 p = some (.tup xs) → P xs → Q (.ref p) H2) → te σ H1 Q
variable {a : Addr} {d d1 d2 n : Nat} {P P1 : List V → Prop}
theorem sw_asgU {i : Nat} (h : EvWU a d te σ H P) (w : Well H a n) (l : n + d ≤ 2 ^ 50) (k : ∀ p xs H1, H p = none → But a H H1 → Well H1 a (n + d) → H1 p = some (.tup xs) → P xs → D.nx (σ.set i (some (.ref p))) H1) : tAsg te (gName i) D σ H :=
  h n H (But.refl a H) w l _ fun p xs H2 hp b2 w2 h2 p => k _ xs H2 hp b2 w2 h2 p
theorem qw_asgU {i : Nat} (h : EvWU a d te σ H P) (w : Well H a n) (l : n + d ≤ 2 ^ 50) (k : ∀ p xs H1, H p = none → But a H H1 → Well H1 a (n + d) → H1 p = some (.tup xs) → P xs → tz D (σ.set i (some (.ref p))) H1) : tSeq (tAsg te (gName i)) tz D σ H :=
  sw_asgU (D := { D with nx := tz D }) h w l k
theorem sw_retU (h : EvWU a d te σ H P) (w : Well H a n) (l : n + d ≤ 2 ^ 50) (k : ∀ p xs H1, H p = none → But a H H1 → Well H1 a (n + d) → H1 p = some (.tup xs) → P xs → D.rt (.ref p) H1) : tRet te D σ H :=
  h n H (But.refl a H) w l _ fun p xs H2 hp b2 w2 h2 p => k _ xs H2 hp b2 w2 h2 p
/-! ### [e for x in xs for y in ys] of tuples -/
def flat2 (n m : Nat) (v : Nat → Nat → V) : List V := (List.range n).flatMap fun i => (List.range m).map (v i)
theorem flat2_succ (n m : Nat) (v : Nat → Nat → V) : flat2 (n + 1) m v = flat2 n m v ++ (List.range m).map (v n) := by
  unfold flat2
  rw [List.range_succ, List.flatMap_append, List.flatMap_singleton]
theorem flat2_length (n m : Nat) (v : Nat → Nat → V) : (flat2 n m v).length = n * m := by
  induction n with
  | zero => simp [flat2]
  | succ n ih => rw [flat2_succ, List.length_append, ih, List.length_map, List.length_range, Nat.succ_mul]
theorem yes_go {A B : Hp → Prop} (h : A H) : tYes σ H (fun b H3 => if b = true then A H3 else B H3) := by
  show (if true = true then A H else B H)
  rw [if_pos rfl]
  exact h
theorem el_lc2T {ti1 : TE} {b1 b2 : Addr} {xs ys : List V} {i j : Nat} {vs vs1 : List Nat} (v : Nat → Nat → V) (h : Ev tl σ H (.ref b1)) (hx : SqT K H b1 xs) (hy : SqT K H b2 ys)
    (h1 : ∀ x H1, Ex H H1 → Ev ti1 ((wipe σ vs).set i (some x)) H1 (.ref b2)) (hz : xs.length * ys.length ≤ 40000)
    (hw : ∀ x, wipe ((wipe σ vs).set i (some x)) vs = wipe σ vs) (hw1 : ∀ x y, wipe ((wipe ((wipe σ vs).set i (some x)) vs1).set j (some y)) vs1 = wipe ((wipe σ vs).set i (some x)) vs1)
    (he : ∀ (n m : Nat) (x y : V) H1, Ex H H1 → xs[n]? = some x → ys[m]? = some y → Ev te ((wipe ((wipe σ vs).set i (some x)) vs1).set j (some y)) H1 (v n m)) :
    EvL (tLc2 (iTup K tl) (gName i) tYes (iTup K ti1) (gName j) tYes te vs vs1) σ H (flat2 xs.length ys.length v) := fun H0 e Q q => h H0 e _ fun H1 e1 => by
  have e01 := e.trans e1
  refine ⟨b1, rfl, ⟨xs, ex_t e01 hx⟩, fun Dl hD => ?_⟩
  refine ⟨fun n m H => m = xs.length - n ∧ n ≤ xs.length ∧ Ex H1 H ∧ H Dl = some (.lst (flat2 n ys.length v)), ⟨xs.length, by simp, Nat.zero_le _, Ex.new hD, upd_same⟩, ?_⟩
  rintro n m H ⟨rfl, hn, e2, hd⟩
  have qx := ex_t (e01.trans e2) hx
  by_cases hlt : n < xs.length
  · refine .inr ⟨⟨xs, xs[n], qx, by simp [hlt]⟩, fun H' => Ex H1 H' ∧ H' Dl = some (.lst (flat2 (n + 1) ys.length v)), fun H' p' => ⟨xs.length - (n + 1), by omega, rfl, hlt, p'⟩, ?_⟩
    rintro x H' ⟨rfl, gx⟩
    have hxn := gx xs qx
    refine ⟨hw x, yes_go ?_⟩
    refine h1 x H' (e01.trans e2) H' (Ex.refl H') _ fun H4 e4 => ⟨b2, rfl, ⟨ys, ex_t ((e01.trans e2).trans e4) hy⟩, ?_⟩
    refine ⟨fun k m H => m = ys.length - k ∧ k ≤ ys.length ∧ Ex H1 H ∧ H Dl = some (.lst (flat2 n ys.length v ++ (List.range k).map (v n))), ⟨ys.length, by simp, Nat.zero_le _, e2.trans e4, by rw [e4 _ _ hd]; simp⟩, ?_⟩
    rintro k m H ⟨rfl, hk, e5, hd5⟩
    have qy := ex_t (e01.trans e5) hy
    by_cases hlk : k < ys.length
    · refine .inr ⟨⟨ys, ys[k], qy, by simp [hlk]⟩, fun H' => Ex H1 H' ∧ H' Dl = some (.lst (flat2 n ys.length v ++ (List.range (k + 1)).map (v n))), fun H' p' => ⟨ys.length - (k + 1), by omega, rfl, hlk, p'⟩, ?_⟩
      rintro y H' ⟨rfl, gy⟩
      refine ⟨hw1 x y, yes_go ?_⟩
      refine he n k x y H' (e01.trans e5) hxn (gy ys qy) H' (Ex.refl H') _ fun H6 e6 => ⟨_, e6 _ _ hd5, sz_lt ?_, Ex.mut (e5.trans e6) hD, ?_⟩
      · rw [List.length_append, flat2_length, List.length_map, List.length_range]
        have a1 : (n + 1) * ys.length ≤ xs.length * ys.length := Nat.mul_le_mul_right _ hlt
        rw [Nat.succ_mul] at a1
        omega
      · rw [upd_same, List.range_succ, List.map_append, List.append_assoc]
        rfl
    · have ek : k = ys.length := by omega
      subst ek
      refine .inl ⟨⟨ys, qy, Nat.le_refl _⟩, e5, ?_⟩
      rw [hd5, flat2_succ]
  · have en : n = xs.length := by omega
    subst en
    exact .inl ⟨⟨xs, qx, Nat.le_refl _⟩, q Dl H (fresh_back e1 hD) (e1.trans e2) hd⟩
/-- a new tuple as an argument -/
theorem eu_callU1 {sp : Sp} {xs zs : List V} {E : XK} (h : EvU ta σ H xs) (h2 : ∀ p H1, Ex H H1 → H1 p = some (.tup xs) → Ev tb σ H1 y) (hs : ∀ p H1, Ex H H1 → H1 p = some (.tup xs) → SpU sp [.ref p, y] H1 zs) : EvU (tCall sp [] E (tCons ta (tCons tb tNil))) σ H zs := fun H1 e Q q =>
  h H1 e _ fun p H2 hp e2 g2 => h2 p H2 (e.trans e2) g2 H2 (Ex.refl H2) _ fun H3 e3 => hs p H3 ((e.trans e2).trans e3) (e3 _ _ g2) H3 (Ex.refl H3) Q (fun r H4 hr e4 h4 => q r H4 (fresh_back (e2.trans e3) hr) ((e2.trans e3).trans e4) h4) E
theorem eu_callU2 {sp : Sp} {xs zs : List V} {E : XK} (h : Ev ta σ H x) (h2 : EvU tb σ H xs) (hs : ∀ p H1, Ex H H1 → H1 p = some (.tup xs) → SpU sp [x, .ref p] H1 zs) : EvU (tCall sp [] E (tCons ta (tCons tb tNil))) σ H zs := fun H1 e Q q =>
  h H1 e _ fun H2 e2 => h2 H2 (e.trans e2) _ fun p H3 hp e3 g3 => hs p H3 ((e.trans e2).trans e3) g3 H3 (Ex.refl H3) Q (fun r H4 hr e4 h4 => q r H4 (fresh_back (e2.trans e3) hr) ((e2.trans e3).trans e4) h4) E
end
end Bk
namespace Bk
open PySem PySem.Spec PyProof.Rows L2 Evl
/-! ### where built-in names stand; rules with the written part named -/
theorem bt_len : bootBuiltins "len" = some (.builtin "len") := by decide +kernel
theorem bt_abs : bootBuiltins "abs" = some (.builtin "abs") := by decide +kernel
theorem bt_max : bootBuiltins "max" = some (.builtin "max") := by decide +kernel
theorem bt_min : bootBuiltins "min" = some (.builtin "min") := by decide +kernel
theorem bt_sum : bootBuiltins "sum" = some (.builtin "sum") := by decide +kernel
theorem bt_sorted : bootBuiltins "sorted" = some (.builtin "sorted") := by decide +kernel
theorem bt_all : bootBuiltins "all" = some (.builtin "all") := by decide +kernel
theorem bt_any : bootBuiltins "any" = some (.builtin "any") := by decide +kernel
theorem bt_repr : bootBuiltins "repr" = some (.builtin "repr") := by decide +kernel
theorem bt_isinstance : bootBuiltins "isinstance" = some (.builtin "isinstance") := by decide +kernel
theorem bt_str : bootBuiltins "str" = some (.type "str") := by decide +kernel
section
variable {X : Cx} {K : PySem.W.Frag}
theorem call_lenK (h : X.K = K) : CallR X (.builtin "len") (rLenS K) := by
  subst h
  exact call_len_seq
theorem cr_sumK (h : X.K = K) (hc : X.calm = true) : CallR X (.builtin "sum") (rSum K) := by
  subst h
  exact cr_sum hc
theorem cr_allK (h : X.K = K) (hc : X.calm = true) : CallR X (.builtin "all") (rAll K) := by
  subst h
  exact cr_all hc
theorem call_listK (h : X.K = K) : CallR X (.type "list") (fun xs H Q => ∃ p ys, xs = [.ref p] ∧ (SqL K H p ys ∨ SqT K H p ys) ∧ ∀ l, H l = none → Q (.ref l) (upd H l (.lst ys))) := by
  subst h
  exact call_list_of
theorem call_tupleK (h : X.K = K) : CallR X (.type "tuple") (rTupOf K) := by
  subst h
  exact call_tuple_of
theorem call_reprK (h : X.K = K) (hg : X.A.guards = some []) (hu : X.A.units + 64 < cLine) : CallR X (.builtin "repr") (rRepr K) := by
  subst h
  exact call_repr hg hu
theorem call_isiK' (h : X.K = K) : CallR X (.builtin "isinstance") (rIsi K) := by
  subst h
  exact call_isi
theorem ix_listK (h : X.K = K) : IxR X (rIxL K) := by
  subst h
  exact ix_list
theorem ix_tupK (h : X.K = K) : IxR X (rIxT K) := by
  subst h
  exact ix_tup
theorem sl_listK (h : X.K = K) : SlR X (rSlL K) := by
  subst h
  exact sl_list
theorem op_eqDK (h : X.K = K) (hu : X.A.units + 64 < cLine) : OpR X (compareOp .Eq) (rEqD K) := by
  subst h
  exact op_eqD hu
theorem op_neDK (h : X.K = K) (hu : X.A.units + 64 < cLine) : OpR X (compareOp .NotEq) (rNeD K) := by
  subst h
  exact op_neD hu
theorem pi_listK {tg e : Expr} {te : TE} (h : X.K = K) (he : PE X e te) : PI X tg e (iList K te) := by
  subst h
  exact pi_list he
theorem pi_tupK {tg e : Expr} {te : TE} (h : X.K = K) (he : PE X e te) : PI X tg e (iTup K te) := by
  subst h
  exact pi_tup he
end
end Bk
namespace Bk
open PySem PySem.Spec PyProof.Rows L2 Evl
/-! ### a list of the numbers below its length, each once -/
theorem len_le {n : Nat} : ∀ {l : List Int}, l.Nodup → (∀ x ∈ l, 0 ≤ x ∧ x < n) → l.length ≤ n := by
  induction n with
  | zero =>
    intro l _ h
    cases l with
    | nil => exact Nat.le_refl _
    | cons a r =>
      have := h a List.mem_cons_self
      omega
  | succ n ih =>
    intro l hn h
    have h1 := ih (l := l.erase (n : Int)) (hn.erase _) fun x hx => by
      have m := hn.mem_erase_iff.mp hx
      have := h x m.2
      have := m.1
      omega
    rw [List.length_erase] at h1
    split at h1 <;> omega
theorem perm_iota {n : Nat} : ∀ {l : List Int}, l.Nodup → (∀ x ∈ l, 0 ≤ x ∧ x < n) → l.length = n → l.Perm (iota n) := by
  induction n with
  | zero =>
    intro l _ _ hl
    have : l = [] := List.length_eq_zero_iff.mp hl
    subst this
    exact List.Perm.refl _
  | succ n ih =>
    intro l hn h hl
    have hm : (n : Int) ∈ l := by
      refine Classical.byContradiction fun c => ?_
      have := len_le (n := n) hn fun x hx => by
        have := h x hx
        have : x ≠ (n : Int) := fun e => c (e ▸ hx)
        omega
      omega
    have p := List.perm_cons_erase hm
    have h1 := ih (l := l.erase (n : Int)) (hn.erase _) (fun x hx => by
      have m := hn.mem_erase_iff.mp hx
      have := h x m.2
      have := m.1
      omega) (by
      have := p.length_eq
      rw [List.length_cons] at this
      omega)
    have e : iota (n + 1) = iota n ++ [(n : Int)] := by
      unfold iota
      rw [List.range_succ, List.map_append]
      rfl
    rw [e]
    exact p.trans ((List.Perm.cons _ h1).trans (List.perm_append_comm (l₁ := [(n : Int)]) (l₂ := iota n)))
section
variable {K : PySem.W.Frag} {σ : L2.St} {H H' : Hp} {ta tb te tl ti : TE} {t u : TT} {x y z v : V} {D : Ends} {tu tz : TS} {a : Addr} {d d1 d2 n : Nat} {P P1 P2 : V → Prop}
/-- t + u of tuples -/
theorem eu_catT {p : Addr} {xs ys : List V} (ha : Ev ta σ H (.ref p)) (hb : EvU tb σ H ys) (h : SqT K H p xs) (h0 : xs ≠ []) (h1 : ys ≠ []) (hz : xs.length + ys.length ≤ 100000) : EvU (tOp (rCatT K) ta tb) σ H (xs ++ ys) := fun H1 e Q k =>
  ha H1 e _ fun H2 e2 => hb H2 (e.trans e2) _ fun r H3 hr e3 h3 => ⟨p, r, xs, ys, rfl, rfl, ex_t ((e.trans e2).trans e3) h, st_of h3, h0, sz_of hz, fun c => (h1 c).elim, fun _ l hl => k l _ (fresh_back (e2.trans e3) hl) ((e2.trans e3).trans (Ex.new hl)) upd_same⟩
theorem op_catTK {X : Cx} (h : X.K = K) : OpR X (binaryOp .Add) (rCatT K) := by
  subst h
  exact op_catT
/-! arguments with draws -/
def EvWA (a : Addr) (d : Nat) (te : TA) (σ : L2.St) (H : Hp) (P : List V → Prop) : Prop := ∀ (n : Nat) (H1 : Hp), But a H H1 → Well H1 a n → n + d ≤ 2 ^ 50 → ∀ Q : List V → Hp → Prop, (∀ vs H2, But a H1 H2 → Well H2 a (n + d) → P vs → Q vs H2) → te σ H1 Q
theorem ewa_nil : EvWA a 0 tNil σ H (fun vs => vs = []) := fun n H1 b w l Q q => q [] H1 (But.refl a H1) w rfl
theorem ewa_cons {tr : TA} {PL : List V → Prop} (h : EvW a d1 te σ H P) (hr : EvWA a d2 tr σ H PL) : EvWA a (d1 + d2) (tCons te tr) σ H (fun vs => ∃ x xs, vs = x :: xs ∧ P x ∧ PL xs) := fun n H1 b w l Q q =>
  h n H1 b w (by omega) _ fun x H2 b2 w2 px => hr (n + d1) H2 (b.trans b2) w2 (by omega) _ fun xs H3 b3 w3 pl => q _ H3 (b2.trans b3) (by
    rw [← Nat.add_assoc]
    exact w3) ⟨x, xs, rfl, px, pl⟩
theorem ewl_lst {t : TA} {PL : List V → Prop} (h : EvWA a d t σ H PL) (hz : ∀ xs, PL xs → xs.length ≤ 100000) : EvWL a d (tLst t) σ H PL := fun n H1 b w l Q q =>
  h n H1 b w l _ fun xs H2 b2 w2 pl => ⟨sz_of (hz xs pl), fun p hp => q p xs _ (but_free b2 w2 hp) (b2.trans (But.new hp)) (w2.ex (Ex.new hp)) upd_same pl⟩
theorem ew_ixW {PL : List V → Prop} (hl : EvWL a d1 tl σ H PL) (hi : EvW a d2 ti σ H P) (hP : ∀ xs v, PL xs → P v → ∃ (i : Int) (x : V), v = .int i ∧ atI xs i = some x ∧ P1 x) : EvW a (d1 + d2) (tOp (rIxL K) tl ti) σ H P1 := fun n H1 b w l Q q =>
  hl n H1 b w (by omega) _ fun p xs H2 hp b2 w2 h2 px => hi (n + d1) H2 (b.trans b2) w2 (by omega) _ fun v H3 b3 w3 pv => by
    obtain ⟨i, x, rfl, hx, px'⟩ := hP xs v px pv
    rw [Nat.add_assoc] at w3
    exact ⟨p, xs, i, x, rfl, rfl, sq_of (b3 p _ (w.ne hp) h2), hx, q x H3 (b2.trans b3) w3 px'⟩
theorem ew_weak (h : EvW a d te σ H P) (l : d ≤ d1) : EvW a d1 te σ H P := fun n H1 b w hl Q q => h n H1 b w (by omega) Q fun v H2 b2 w2 p => q v H2 b2 (w2.mono (by omega)) p
theorem ew_if {b : Bool} (ht : EvT t σ (hid a H) b) (h1 : b = true → EvW a d ta σ H P) (h2 : b = false → EvW a d tb σ H P) : EvW a d (tIf t ta tb) σ H P := fun n H1 bt w l Q q =>
  ht H1 (ex_hid bt) _ fun H2 e2 => by
    have q' : ∀ v H3, But a H2 H3 → Well H3 a (n + d) → P v → Q v H3 := fun v H3 b3 w3 p => q v H3 ((But.ex e2).trans b3) w3 p
    cases b with
    | true => exact iteT (h1 rfl n H2 (bt.trans (But.ex e2)) (w.ex e2) l Q q')
    | false => exact iteF (h2 rfl n H2 (bt.trans (But.ex e2)) (w.ex e2) l Q q')
/-! range(a, b, c) upwards -/
theorem RgC.up {j c : Int} (h0 : 0 ≤ j) (h1 : j ≤ 100000) (c0 : 0 < c) (c1 : c ≤ 100000) : ∃ n : Nat, RgC 0 j c n ∧ ∀ k : Nat, k < n → (k : Int) * c < j := by
  have hs : Builtin.Range.rangeSize 0 j c = (if 0 < j then (j - 0 - 1) / c + 1 else 0) := by
    unfold Builtin.Range.rangeSize
    rw [if_pos c0]
  have hd0 : 0 < j → 0 ≤ (j - 0 - 1) / c := fun h => Int.ediv_nonneg (by omega) (by omega)
  have hd1 : 0 < j → (j - 0 - 1) / c ≤ j - 0 - 1 := fun h => Int.ediv_le_self _ (by omega)
  refine ⟨(if 0 < j then (j - 0 - 1) / c + 1 else 0).toNat, ⟨by omega, by omega, ?_, ?_⟩, ?_⟩
  · unfold Builtin.Range.small
    rw [hs]
    simp only [Builtin.Range.rangeFitsLong, Bool.and_eq_true, Bool.or_eq_true, decide_eq_true_eq, beq_iff_eq, if_pos c0]
    by_cases hj : 0 < j
    · have := hd0 hj
      have := hd1 hj
      rw [if_pos hj]
      omega
    · rw [if_neg hj]
      omega
  · rw [hs, Int.toNat_of_nonneg]
    split
    · have := hd0 (by assumption)
      omega
    · omega
  · intro k hk
    by_cases hj : 0 < j
    · rw [if_pos hj] at hk
      have h2 : (k : Int) ≤ (j - 0 - 1) / c := by
        have := hd0 hj
        omega
      have := (Int.le_ediv_iff_mul_le c0).mp h2
      omega
    · rw [if_neg hj] at hk
      exact absurd hk (Nat.not_lt_zero _)
theorem q_forR3 {ta : TA} {i : Nat} {j c : Int} (h : EvA ta σ H [.int 0, .int j, .int c]) (h0 : 0 ≤ j) (h1 : j ≤ 100000) (c0 : 0 < c) (c1 : c ≤ 100000) (Pv : Nat → L2.St → Hp → Prop) (hp0 : ∀ H1, Ex H H1 → Pv 0 σ H1)
    (hs : ∀ (k : Nat) σ' H', (k : Int) * c < j → Pv k σ' H' → tu { D with nx := Pv (k + 1), ct := Pv (k + 1), bk := tz D } (σ'.set i (some (.int ((k : Int) * c)))) H') (hd : ∀ k σ' H', Pv k σ' H' → tz D σ' H') : tSeq (tFor (iRng3 ta) (gName i) tu) tz D σ H := by
  obtain ⟨n, hr, hn⟩ := RgC.up h0 h1 c0 c1
  refine h H (Ex.refl H) _ fun H1 e1 => ⟨0, j, c, n, rfl, hr, for_rangeC (lo := 0) (c := c) (n := n) Pv (hp0 H1 e1) (fun k σ' H' hk p => ?_) fun σ' H' p => hd n σ' H' p⟩
  have e0 : (0 : Int) + (k : Int) * c = (k : Int) * c := Int.zero_add _
  show tu { D with nx := Pv (k + 1), ct := Pv (k + 1), bk := tz D } (σ'.set i (some (.int ((0 : Int) + (k : Int) * c)))) H'
  rw [e0]
  exact hs k σ' H' (hn k hk) p
/-- three new tuples, drawn -/
theorem qw_par3U {i j l : Nat} {tc : TE} {d3 : Nat} {PA PB PC : List V → Prop} (h1 : EvWU a d1 ta σ H PA) (h2 : EvWU a d2 tb σ H PB) (h3 : EvWU a d3 tc σ H PC) (w : Well H a n) (hl : n + (d1 + d2 + d3) ≤ 2 ^ 50)
    (k : ∀ p q r xs ys zs H1, H p = none → H q = none → H r = none → But a H H1 → Well H1 a (n + (d1 + d2 + d3)) → H1 p = some (.tup xs) → H1 q = some (.tup ys) → H1 r = some (.tup zs) → PA xs → PB ys → PC zs →
      tz D (((σ.set i (some (.ref p))).set j (some (.ref q))).set l (some (.ref r))) H1) : tSeq (tPar3 i j l (tCons ta (tCons tb (tCons tc tNil)))) tz D σ H :=
  h1 n H (But.refl a H) w (by omega) _ fun p xs H2 hp b2 w2 g2 pa => h2 (n + d1) H2 b2 w2 (by omega) _ fun q ys H3 hq b3 w3 g3 pb => h3 (n + d1 + d2) H3 (b2.trans b3) w3 (by omega) _ fun r zs H4 hr b4 w4 g4 pc => by
    refine ⟨_, _, _, rfl, k p q r xs ys zs H4 hp (but_free b2 w2 hq) (but_free (b2.trans b3) w3 hr) ((b2.trans b3).trans b4) ?_ (b4 _ _ (w.ne hp) (b3 _ _ (w.ne hp) g2)) (b4 _ _ (w2.ne hq) g3) g4 pa pb pc⟩
    rw [show n + (d1 + d2 + d3) = n + d1 + d2 + d3 by omega]
    exact w4
theorem qw_par3L {i j l : Nat} {tc : TE} {d3 : Nat} {PA PB PC : List V → Prop} (h1 : EvWL a d1 ta σ H PA) (h2 : EvWL a d2 tb σ H PB) (h3 : EvWL a d3 tc σ H PC) (w : Well H a n) (hl : n + (d1 + d2 + d3) ≤ 2 ^ 50)
    (k : ∀ p q r xs ys zs H1, H p = none → H q = none → H r = none → But a H H1 → Well H1 a (n + (d1 + d2 + d3)) → H1 p = some (.lst xs) → H1 q = some (.lst ys) → H1 r = some (.lst zs) → PA xs → PB ys → PC zs →
      tz D (((σ.set i (some (.ref p))).set j (some (.ref q))).set l (some (.ref r))) H1) : tSeq (tPar3 i j l (tCons ta (tCons tb (tCons tc tNil)))) tz D σ H :=
  h1 n H (But.refl a H) w (by omega) _ fun p xs H2 hp b2 w2 g2 pa => h2 (n + d1) H2 b2 w2 (by omega) _ fun q ys H3 hq b3 w3 g3 pb => h3 (n + d1 + d2) H3 (b2.trans b3) w3 (by omega) _ fun r zs H4 hr b4 w4 g4 pc => by
    refine ⟨_, _, _, rfl, k p q r xs ys zs H4 hp (but_free b2 w2 hq) (but_free (b2.trans b3) w3 hr) ((b2.trans b3).trans b4) ?_ (b4 _ _ (w.ne hp) (b3 _ _ (w.ne hp) g2)) (b4 _ _ (w2.ne hq) g3) g4 pa pb pc⟩
    rw [show n + (d1 + d2 + d3) = n + d1 + d2 + d3 by omega]
    exact w4
end
end Bk
namespace Bk
open PySem PySem.Spec PyProof.Rows L2 Evl
/-! ### lists of lists of numbers -/
def up (r : List Nat) : List Int := r.map fun k : Nat => (k : Int)
theorem up_length (r : List Nat) : (up r).length = r.length := by simp [up]
def Nest (H : Hp) (qs : List Addr) (R : List (List Nat)) : Prop := qs.length = R.length ∧ ∀ (i : Nat) (q : Addr) (r : List Nat), qs[i]? = some q → R[i]? = some r → H q = some (.lst (vi (up r)))
section
variable {K : PySem.W.Frag} {σ : L2.St} {H H1 H' : Hp} {qs : List Addr} {R : List (List Nat)} {p q : Addr} {r : List Nat} {ta tb te tl : TE} {t u : TT} {x y z v : V} {D : Ends} {tu tw tz : TS}
theorem Nest.nil : Nest H [] [] := ⟨rfl, fun _ _ _ h => nomatch h⟩
theorem Nest.ex (h : Nest H qs R) (e : Ex H H1) : Nest H1 qs R := ⟨h.1, fun i q r a b => e _ _ (h.2 i q r a b)⟩
theorem Nest.but (h : Nest H qs R) (e : But p H H1) (n : ∀ q ∈ qs, q ≠ p) : Nest H1 qs R := ⟨h.1, fun i q r a b => e _ _ (n q (List.mem_of_getElem? a)) (h.2 i q r a b)⟩
theorem Nest.upd {o : HO} (h : Nest H qs R) (n : ∀ q ∈ qs, q ≠ p) : Nest (L2.upd H p o) qs R := ⟨h.1, fun i q r a b => by
  rw [upd_ne (n q (List.mem_of_getElem? a))]
  exact h.2 i q r a b⟩
theorem Nest.some (h : Nest H qs R) (hq : q ∈ qs) : ∃ o, H q = some o := by
  obtain ⟨i, hi, e⟩ := List.getElem_of_mem hq
  have hi' : i < R.length := h.1 ▸ hi
  exact ⟨_, h.2 i q R[i] (by rw [← e, List.getElem?_eq_getElem hi]) (List.getElem?_eq_getElem hi')⟩
theorem Nest.ne (_ : Nest H qs R) (h : Nest H1 qs R) (hq : q ∈ qs) (n : H1 p = none) : q ≠ p := fun e => by
  obtain ⟨o, ho⟩ := h.some hq
  rw [e, n] at ho
  cases ho
theorem Nest.put (h : Nest H qs R) (hq : H q = Option.some (.lst (vi (up r)))) : Nest H (qs ++ [q]) (R ++ [r]) := by
  refine ⟨by rw [List.length_append, List.length_append, h.1]; rfl, fun i q' r' a b => ?_⟩
  by_cases c : i < qs.length
  · rw [List.getElem?_append_left c] at a
    rw [List.getElem?_append_left (h.1 ▸ c)] at b
    exact h.2 i q' r' a b
  · rw [List.getElem?_append_right (by omega)] at a
    rw [List.getElem?_append_right (by have := h.1; omega)] at b
    rw [← h.1] at b
    match hi : i - qs.length, a, b with
    | 0, a, b =>
      cases a
      cases b
      exact hq
    | k + 1, a, b => cases a
theorem ne_of_none' {o : HO} {a b : Addr} (n : H a = none) (h : H b = some o) : a ≠ b := fun e => by
  rw [e, h] at n
  cases n
theorem rings_le {R : List (List Nat)} (h : ∀ r ∈ R, 0 < r.length) : R.length ≤ R.flatten.length := by
  induction R with
  | nil => exact Nat.le_refl _
  | cons a R ih =>
    rw [List.flatten_cons, List.length_append, List.length_cons]
    have := h a List.mem_cons_self
    have := ih fun r hr => h r (List.mem_cons_of_mem _ hr)
    omega
def RetN (R : List (List Nat)) (H : Hp) (Q : VK) : Prop := ∀ p qs H2, H p = none → Ex H H2 → H2 p = some (.lst (qs.map .ref)) → Nest H2 qs R → (∀ q ∈ qs, H q = none) → Q (.ref p) H2
def SpN (sp : Sp) (vs : List V) (H : Hp) (R : List (List Nat)) : Prop := ∀ H1, Ex H H1 → ∀ Q : VK, RetN R H1 Q → ∀ E : XK, sp vs H1 Q E
def EvN (te : TE) (σ : L2.St) (H : Hp) (R : List (List Nat)) : Prop := ∀ H1, Ex H H1 → ∀ Q : VK, RetN R H1 Q → te σ H1 Q
theorem en_call {sp : Sp} {vs : List V} {E : XK} {ta : TA} (h : EvA ta σ H vs) (hs : SpN sp vs H R) : EvN (tCall sp [] E ta) σ H R := fun H1 e Q q =>
  h H1 e _ fun H2 e2 => by
    have := hs H2 (e.trans e2) Q (fun p qs H3 hp e3 h3 n f => q p qs H3 (fresh_back e2 hp) (e2.trans e3) h3 n fun b hb => fresh_back e2 (f b hb)) E
    rw [← List.append_nil vs] at this
    exact this
/-- a comprehension over it -/
theorem el_lcN {j : Nat} {vs : List Nat} (f : Nat → Bool) (v : Nat → V) (h : EvN tl σ H R) (hz : R.length ≤ 40000) (hw : ∀ x, wipe ((wipe σ vs).set j (some x)) vs = wipe σ vs)
    (ht : ∀ (i : Nat) q r H1, Ex H H1 → R[i]? = some r → H1 q = some (.lst (vi (up r))) → EvT t ((wipe σ vs).set j (some (.ref q))) H1 (f i)) (he : ∀ (i : Nat) q r H1, Ex H H1 → R[i]? = some r → H1 q = some (.lst (vi (up r))) → f i = true → Ev te ((wipe σ vs).set j (some (.ref q))) H1 (v i)) :
    EvL (tLc (iList K tl) (gName j) t te vs) σ H (given R.length f v) := fun H0 e Q q => h H0 e _ fun a qs H1 ha e1 hx nq _ => ⟨a, rfl, ⟨qs.map .ref, sq_of hx⟩, fun Dl hD =>
  lc_list (xs := qs.map .ref) (Cw H1 f v Dl) ⟨hD, Ex.new hD, upd_same⟩ (fun i H' _ p => sq_of (p.2.1 a _ hx)) (fun i x H' hi p => by
    rw [List.getElem?_map] at hi
    cases g : qs[i]? with
    | none => rw [g] at hi; cases hi
    | some b =>
      rw [g] at hi
      cases hi
      have hl := (List.getElem?_eq_some_iff.mp g).1
      have hlr : i < R.length := nq.1 ▸ hl
      have hR : R[i]? = some R[i] := List.getElem?_eq_getElem hlr
      have hb := nq.2 i b _ g hR
      refine ⟨hw _, cw_turn p (by have := nq.1; omega) (ht i b _ H1 (e.trans e1) hR hb) (fun hf => he i b _ H1 (e.trans e1) hR hb hf)⟩)
    (fun H' p => q Dl H' (fresh_back e1 p.1) (e1.trans p.2.1) (by
      have := p.2.2
      rw [List.length_map, nq.1] at this
      exact this))⟩
/-- a loop over it -/
theorem s_forN {j : Nat} (h : EvN tl σ H R) (Pv : Addr → List Addr → Nat → L2.St → Hp → Prop) (h0 : ∀ p qs H1, H p = none → Ex H H1 → H1 p = some (.lst (qs.map .ref)) → Nest H1 qs R → (∀ q ∈ qs, H q = none) → Pv p qs 0 σ H1)
    (hl : ∀ p qs i σ' H', i ≤ R.length → Pv p qs i σ' H' → H' p = some (.lst (qs.map .ref)) ∧ Nest H' qs R)
    (hs : ∀ p qs i q r σ' H', R[i]? = some r → H' q = some (.lst (vi (up r))) → q ∈ qs → Pv p qs i σ' H' → tu { D with nx := Pv p qs (i + 1), ct := Pv p qs (i + 1), bk := D.nx } (σ'.set j (some (.ref q))) H') (hd : ∀ p qs σ' H', Pv p qs R.length σ' H' → D.nx σ' H') : tFor (iList K tl) (gName j) tu D σ H :=
  h H (Ex.refl H) _ fun p qs H1 hp e h1 nq fq => ⟨p, rfl, ⟨qs.map .ref, sq_of h1⟩, for_list (Pv p qs) (h0 p qs H1 hp e h1 nq fq) (fun i σ' H' hi k => sq_of (hl p qs i σ' H' (by rw [List.length_map, nq.1] at hi; exact hi) k).1) (fun i x σ' H' hx k => by
    rw [List.getElem?_map] at hx
    cases g : qs[i]? with
    | none => rw [g] at hx; cases hx
    | some b =>
      rw [g] at hx
      cases hx
      have hlt := (List.getElem?_eq_some_iff.mp g).1
      have hlr : i < R.length := nq.1 ▸ hlt
      have hR : R[i]? = some R[i] := List.getElem?_eq_getElem hlr
      exact hs p qs i b _ σ' H' hR ((hl p qs i σ' H' (Nat.le_of_lt hlr) k).2.2 i b _ g hR) (List.mem_of_getElem? g) k) (fun σ' H' k => hd p qs σ' H' (by rw [List.length_map, nq.1] at k; exact k))⟩
theorem q_forN {j : Nat} (h : EvN tl σ H R) (Pv : Addr → List Addr → Nat → L2.St → Hp → Prop) (h0 : ∀ p qs H1, H p = none → Ex H H1 → H1 p = some (.lst (qs.map .ref)) → Nest H1 qs R → (∀ q ∈ qs, H q = none) → Pv p qs 0 σ H1)
    (hl : ∀ p qs i σ' H', i ≤ R.length → Pv p qs i σ' H' → H' p = some (.lst (qs.map .ref)) ∧ Nest H' qs R)
    (hs : ∀ p qs i q r σ' H', R[i]? = some r → H' q = some (.lst (vi (up r))) → q ∈ qs → Pv p qs i σ' H' → tu { D with nx := Pv p qs (i + 1), ct := Pv p qs (i + 1), bk := tz D } (σ'.set j (some (.ref q))) H') (hd : ∀ p qs σ' H', Pv p qs R.length σ' H' → tz D σ' H') : tSeq (tFor (iList K tl) (gName j) tu) tz D σ H :=
  s_forN (D := { D with nx := tz D }) h Pv h0 hl hs hd
end
end Bk
namespace Bk
open PySem PySem.Spec PyProof.Rows L2 Evl
/-! ### tests and calls with drawn parts -/
def EvWT (a : Addr) (d : Nat) (t : TT) (σ : L2.St) (H : Hp) (b : Bool) : Prop := ∀ (n : Nat) (H1 : Hp), But a H H1 → Well H1 a n → n + d ≤ 2 ^ 50 → ∀ Q : Bool → Hp → Prop, (∀ H2, But a H1 H2 → Well H2 a (n + d) → Q b H2) → t σ H1 Q
section
variable {K : PySem.W.Frag} {σ : L2.St} {H : Hp} {ta tb te ti tl : TE} {t u : TT} {a : Addr} {d d1 d2 n : Nat} {P P1 P2 : V → Prop} {v x y : V} {b : Bool} {D : Ends} {tu tw tz : TS} {sp : Sp} {E : XK}
theorem ewt_test (h : EvW a d te σ H (fun v => v = .bl b)) : EvWT a d (tTest te) σ H b := fun n H1 bt w l Q q => h n H1 bt w l _ fun v H2 b2 w2 e => ⟨b, e, q H2 b2 w2⟩
theorem ewt_B (h : EvW a d te σ H (fun v => v = .bl b)) : EvWT a d (tB te) σ H b := fun n H1 bt w l Q q => h n H1 bt w l _ fun v H2 b2 w2 e => ⟨b, e, q H2 b2 w2⟩
theorem ewt_not {c : Bool} (h : EvWT a d t σ H c) : EvWT a d (tNot t) σ H (!c) := fun n H1 bt w l Q q => h n H1 bt w l _ fun H2 b2 w2 => q H2 b2 w2
theorem qw_when (h : EvWT a d t σ H b) (w : Well H a n) (l : n + d ≤ 2 ^ 50) (k1 : b = true → ∀ H1, But a H H1 → Well H1 a (n + d) → tu { D with nx := tz D } σ H1) (k2 : b = false → ∀ H1, But a H H1 → Well H1 a (n + d) → tw { D with nx := tz D } σ H1) : tSeq (tIfS t tu tw) tz D σ H :=
  h n H (But.refl a H) w l _ fun H2 b2 w2 => by
    cases b with
    | true => exact iteT (k1 rfl H2 b2 w2)
    | false => exact iteF (k2 rfl H2 b2 w2)
theorem sw_when (h : EvWT a d t σ H b) (w : Well H a n) (l : n + d ≤ 2 ^ 50) (k1 : b = true → ∀ H1, But a H H1 → Well H1 a (n + d) → tu D σ H1) (k2 : b = false → ∀ H1, But a H H1 → Well H1 a (n + d) → tw D σ H1) : tIfS t tu tw D σ H :=
  h n H (But.refl a H) w l _ fun H2 b2 w2 => by
    cases b with
    | true => exact iteT (k1 rfl H2 b2 w2)
    | false => exact iteF (k2 rfl H2 b2 w2)
theorem sw_ret (h : EvW a d te σ H P) (w : Well H a n) (l : n + d ≤ 2 ^ 50) (k : ∀ v H1, But a H H1 → Well H1 a (n + d) → P v → D.rt v H1) : tRet te D σ H := h n H (But.refl a H) w l _ k
/-- f(drawn tuple) -/
theorem ew_callU {PU : List V → Prop} (h : EvWU a d te σ H PU) (hs : ∀ p xs H1, H1 p = some (.tup xs) → PU xs → SpV sp [.ref p] H1 v) : EvW a d (tCall sp [] E (tCons te tNil)) σ H (fun z => z = v) := fun n H1 bt w l Q q =>
  h n H1 bt w l _ fun p xs H2 hp b2 w2 h2 pu => hs p xs H2 h2 pu H2 (Ex.refl H2) Q (fun H3 e3 => q v H3 (b2.trans (But.ex e3)) (w2.ex e3) rfl) E
theorem ew_callUV {PU : List V → Prop} (h : EvWU a d1 te σ H PU) (h' : EvW a d2 ti σ H P) (hs : ∀ p xs x H1, H1 p = some (.tup xs) → PU xs → P x → SpV sp [.ref p, x] H1 v) : EvW a (d1 + d2) (tCall sp [] E (tCons te (tCons ti tNil))) σ H (fun z => z = v) := fun n H1 bt w l Q q =>
  h n H1 bt w (by omega) _ fun p xs H2 hp b2 w2 h2 pu => h' (n + d1) H2 (bt.trans b2) w2 (by omega) _ fun x H3 b3 w3 px => hs p xs x H3 (b3 _ _ (w.ne hp) h2) pu px H3 (Ex.refl H3) Q (fun H4 e4 => q v H4 ((b2.trans b3).trans (But.ex e4)) (by
    have := w3.ex e4
    rw [Nat.add_assoc] at this
    exact this) rfl) E
/-- draw > 0 or f(..) -/
theorem ew_orV {c : Bool} (h1 : EvW a d1 ta σ H (fun v => ∃ b, v = .bl b)) (h2 : EvW a d2 tb σ H (fun v => v = .bl true)) : EvW a (d1 + d2) (tOrV ta tb) σ H (fun v => v = .bl true) := fun n H1 bt w l Q q =>
  h1 n H1 bt w (by omega) _ fun v H2 b2 w2 ⟨b, e⟩ => ⟨b, e, by
    cases b with
    | true => exact iteT (q _ H2 b2 (w2.mono (by omega)) rfl)
    | false => exact iteF (h2 (n + d1) H2 (bt.trans b2) w2 (by omega) Q fun v H3 b3 w3 e => q v H3 (b2.trans b3) (by
        rw [Nat.add_assoc] at w3
        exact w3) e)⟩
theorem ew_gt {P1 P2 : Int → Prop} (h1 : EvW a d1 ta σ H (fun v => ∃ r, v = .int r ∧ P1 r)) (h2 : EvW a d2 tb σ H (fun v => ∃ r, v = .int r ∧ P2 r)) : EvW a (d1 + d2) (tOp (rI0 fun i j => .bl (decide (j < i))) ta tb) σ H (fun v => ∃ b, v = .bl b) :=
  ew_op h1 h2 fun x y ⟨i, ei, p⟩ ⟨j, ej, p'⟩ => ⟨.bl (decide (j < i)), fun H => by
    rw [ei, ej]
    exact rv_b rfl, _, rfl⟩
theorem ew_sub {P1 P2 P : Int → Prop} (h1 : EvW a d1 ta σ H (fun v => ∃ r, v = .int r ∧ P1 r)) (h2 : EvW a d2 tb σ H (fun v => ∃ r, v = .int r ∧ P2 r)) (h : ∀ x y, P1 x → P2 y → P (x - y)) :
    EvW a (d1 + d2) (tOp (rI0 fun i j => .int (i - j)) ta tb) σ H (fun v => ∃ r, v = .int r ∧ P r) :=
  ew_op h1 h2 fun x y ⟨i, ei, p⟩ ⟨j, ej, p'⟩ => ⟨.int (i - j), fun H => by
    rw [ei, ej]
    exact rv_I0, i - j, rfl, h i j p p'⟩
end
section
variable {K : PySem.W.Frag} {σ : L2.St} {H : Hp} {ta tb : TE} {D : Ends} {tz : TS}
/-- x, y = ([..], [..]) by a tuple -/
theorem q_tupLL {i j : Nat} {xs ys : List V} (h1 : EvL ta σ H xs) (h2 : ∀ p H1, H p = none → Ex H H1 → H1 p = some (.lst xs) → EvL tb σ H1 ys) (k : ∀ p q H1, H p = none → H q = none → p ≠ q → Ex H H1 → H1 p = some (.lst xs) → H1 q = some (.lst ys) → tz D ((σ.set i (some (.ref p))).set j (some (.ref q))) H1) :
    tSeq (tAsg (tTup (tCons ta (tCons tb tNil))) (gTup K 2 (gCons (gName i) (gCons (gName j) gNil)))) tz D σ H :=
  h1 H (Ex.refl H) _ fun p H2 hp e2 g2 => h2 p H2 hp e2 g2 H2 (Ex.refl H2) _ fun q H3 hq e3 g3 => ⟨sz_of (by show 2 ≤ 100000; decide), fun r hr => ⟨r, _, rfl, st_of upd_same, rfl, _, _, rfl, _, _, rfl, rfl, k p q _ hp (fresh_back e2 hq) (ne_of_none g2 hq) ((e2.trans e3).trans (Ex.new hr)) (Ex.new hr _ _ (e3 _ _ g2)) (Ex.new hr _ _ g3)⟩⟩
end
/-! ### lists picked -/
theorem given_filter (xs : List Int) (p : Int → Bool) : given xs.length (fun j => p (xs.getD j 0)) (fun j => V.int (xs.getD j 0)) = vi (xs.filter p) := by
  have e : xs = (List.range xs.length).map fun j => xs.getD j 0 := by
    refine List.ext_getElem? fun i => ?_
    rw [List.getElem?_map]
    by_cases hi : i < xs.length
    · rw [List.getElem?_range hi, List.getElem?_eq_getElem hi]
      show _ = some (xs.getD i 0)
      rw [List.getD_eq_getElem?_getD, List.getElem?_eq_getElem hi]
      rfl
    · rw [List.getElem?_eq_none (by omega), List.getElem?_eq_none (by rw [List.length_range]; omega)]
      rfl
  have e2 : xs.filter p = ((List.range xs.length).filter fun j => p (xs.getD j 0)).map fun j => xs.getD j 0 := by
    conv => lhs; rw [e]
    rw [List.filter_map]
    rfl
  unfold given vi
  rw [e2, List.map_map]
  rfl
theorem perm_sum {xs ys : List Int} (h : xs.Perm ys) : xs.sum = ys.sum := by
  induction h with
  | nil => rfl
  | cons x _ ih => rw [List.sum_cons, List.sum_cons, ih]
  | swap x y l => simp only [List.sum_cons]; omega
  | trans _ _ a b => exact a.trans b
end Bk
namespace Bk
open PySem PySem.Spec PyProof.Rows L2 Evl
/-! ### xs.count(k) -/
def rLCount : V → List V → Hp → VK → Prop := fun x vs H Q => ∃ l ns k, x = .ref l ∧ vs = [.int k] ∧ H l = some (.lst (vi ns)) ∧ Q (.int (ns.count k : Nat)) H
theorem mt_lcount {X : Cx} : MtM X "list.count" rLCount := by
  intro pins s σ H x vs v us Q I rx rv h
  obtain ⟨l, ns, k, rfl, rfl, hH, q⟩ := h
  cases rx
  obtain ⟨u, rfl, ru⟩ := rv.one
  obtain ⟨t, rfl⟩ := ru
  obtain ⟨z, its, n, r, hl, e⟩ := I.lstM hH
  exact count_list_ints ⟨_, e, rfl, n, rfl⟩ r.ints ⟨.int (ns.count k : Nat), H, I.tok _, ⟨_, rfl⟩, q⟩
section
variable {K : PySem.W.Frag} {σ : L2.St} {H : Hp} {ta tb : TE}
theorem ev_lcount {l : Addr} {ns : List Int} {k : Int} (ha : Ev ta σ H (.ref l)) (h : H l = some (.lst (vi ns))) (hb : Ev tb σ H (.int k)) : Ev (tBM K "list" rLCount ta (tCons tb tNil)) σ H (.int ((ns.count k : Nat) : Int)) := fun H1 e Q q =>
  ha H1 e _ fun H2 e2 => ⟨Or.inl ⟨rfl, _, sq_of ((e.trans e2) _ _ h)⟩, hb H2 (e.trans e2) _ fun H3 e3 => ⟨l, ns, k, rfl, rfl, ((e.trans e2).trans e3) _ _ h, q H3 (e2.trans e3)⟩⟩
variable {tb' : TE} {D : Ends}
theorem s_parVV {i j : Nat} {x y : V} (h1 : Ev ta σ H x) (h2 : Ev tb σ H y) (k : ∀ H1, Ex H H1 → D.nx ((σ.set i (some x)).set j (some y)) H1) :
    tPar i j (tCons ta (tCons tb tNil)) D σ H :=
  h1 H (Ex.refl H) _ fun H2 e2 => h2 H2 e2 _ fun H3 e3 => ⟨_, _, rfl, k H3 (e2.trans e3)⟩
end
end Bk
namespace Bk
open PySem PySem.Spec PyProof.Rows L2 Evl
section
variable {K : PySem.W.Frag} {σ : L2.St} {H : Hp} {ta tb : TE}
theorem el_listT {p : Addr} {xs : List V} (ha : Ev ta σ H (.ref p)) (h : SqT K H p xs) : EvL (tCB (rListS K) (tCons ta tNil)) σ H xs := fun H1 e Q q =>
  ha H1 e _ fun H2 e2 => ⟨p, xs, rfl, Or.inr (ex_t (e.trans e2) h), fun l hl => q l _ (fresh_back e2 hl) (e2.trans (Ex.new hl)) upd_same⟩
theorem eu_rg1 {n : Int} (ha : Ev ta σ H (.int n)) (h0 : 0 ≤ n) (hn : n ≤ 100000) : EvU (tTupRg (tRg1 ta)) σ H (rgV 0 n) := fun H1 e Q q =>
  ha H1 e _ fun H2 e2 => ⟨n, rfl, RgOk.of_le (by omega) (by omega) (by omega) h0, fun l hl => q l _ (fresh_back e2 hl) (e2.trans (Ex.new hl)) upd_same⟩
theorem ev_neg {i : Int} (ha : Ev ta σ H (.int i)) : Ev (tUn (rU fun i => .int (-i)) ta) σ H (.int (-i)) := fun H1 e Q q => ha H1 e _ fun H2 e2 => ⟨i, rfl, q H2 e2⟩
end
end Bk
namespace Bk
open PySem PySem.Spec PyProof.Rows L2 Evl
/-! ### xs[i] += e, xs[i] -= e -/
def rGetL (K : PySem.W.Frag) : V → V → Hp → VK → Prop := fun x y H Q => ∃ (p : Addr) (xs : List V) (j : Nat) (v : V), x = .ref p ∧ y = .int (j : Int) ∧ SqL K H p xs ∧ xs[j]? = some v ∧ Q v H
theorem pget_list {X : Cx} : PGet X (rGetL X.K) := by
  intro pins s σ H o i ov iv Q I ro ri h
  obtain ⟨p, xs, j, v, rfl, rfl, hq, hx, q⟩ := h
  cases ro
  obtain ⟨t, rfl⟩ := ri
  obtain ⟨its, r, pl, hz⟩ := I.list hq
  obtain ⟨w, ew, rw'⟩ := r.get hx
  have hl := (List.getElem?_eq_some_iff.mp hx).1
  have hn := line63
  exact PySem.wpAny_getItem_list pl.isList (by omega) (by omega) (by simpa using ew) ⟨v, H, I, rw', q⟩
section
variable {K : PySem.W.Frag} {σ : L2.St} {H : Hp} {ta tb te ti to' : TE} {D : Ends} {tu tz : TS} {t : TT}
theorem s_augL {l : Addr} {xs : List V} {j : Nat} {a b : Int} {f : Int → Int → Int} (ho : Ev ta σ H (.ref l)) (hi : Ev ti σ H (.int (j : Int))) (hl : H l = some (.lst xs)) (hx : xs[j]? = some (.int a)) (he : Ev te σ H (.int b)) (k : ∀ H1, Ex H H1 → D.nx σ (upd H1 l (.lst (xs.set j (.int (f a b)))))) :
    tAugS ta ti te (rGetL K) (ipI f) rSetL D σ H := ho H (Ex.refl H) _ fun H1 e1 => hi H1 e1 _ fun H2 e2 =>
  ⟨l, xs, j, _, rfl, rfl, sq_of ((e1.trans e2) _ _ hl), hx, he H2 (e1.trans e2) _ fun H3 e3 => ⟨a, b, rfl, rfl, l, xs, (j : Int), j, rfl, rfl, ((e1.trans e2).trans e3) _ _ hl, ixN_nat (List.getElem?_eq_some_iff.mp hx).1, k H3 ((e1.trans e2).trans e3)⟩⟩
/-! ### range(a, b, c) upwards, from anywhere -/
theorem RgC.upG {lo j c : Int} (l0 : 0 ≤ lo) (l1 : lo ≤ 100000) (h0 : 0 ≤ j) (h1 : j ≤ 100000) (c0 : 0 < c) (c1 : c ≤ 100000) : ∃ n : Nat, RgC lo j c n ∧ (∀ k : Nat, k < n → lo + (k : Int) * c < j) ∧ j ≤ lo + (n : Int) * c := by
  have hs : Builtin.Range.rangeSize lo j c = (if lo < j then (j - lo - 1) / c + 1 else 0) := by
    unfold Builtin.Range.rangeSize
    rw [if_pos c0]
  have hd0 : lo < j → 0 ≤ (j - lo - 1) / c := fun h => Int.ediv_nonneg (by omega) (by omega)
  have hd1 : lo < j → (j - lo - 1) / c ≤ j - lo - 1 := fun h => Int.ediv_le_self _ (by omega)
  refine ⟨(if lo < j then (j - lo - 1) / c + 1 else 0).toNat, ⟨by omega, by omega, ?_, ?_⟩, ?_, ?_⟩
  · unfold Builtin.Range.small
    rw [hs]
    simp only [Builtin.Range.rangeFitsLong, Bool.and_eq_true, Bool.or_eq_true, decide_eq_true_eq, beq_iff_eq, if_pos c0]
    by_cases hj : lo < j
    · have := hd0 hj
      have := hd1 hj
      rw [if_pos hj]
      omega
    · rw [if_neg hj]
      omega
  · rw [hs, Int.toNat_of_nonneg]
    split
    · have := hd0 (by assumption)
      omega
    · omega
  · intro k hk
    by_cases hj : lo < j
    · rw [if_pos hj] at hk
      have h2 : (k : Int) ≤ (j - lo - 1) / c := by
        have := hd0 hj
        omega
      have := (Int.le_ediv_iff_mul_le c0).mp h2
      omega
    · rw [if_neg hj] at hk
      exact absurd hk (Nat.not_lt_zero _)
  · by_cases hj : lo < j
    · rw [if_pos hj]
      have := hd0 hj
      rw [Int.toNat_of_nonneg (by omega)]
      have := Int.lt_ediv_add_one_mul_self (j - lo - 1) c0
      omega
    · rw [if_neg hj]
      show j ≤ lo + (0 : Int) * c
      omega
theorem s_forR3G {ta : TA} {i : Nat} {lo j c : Int} (h : EvA ta σ H [.int lo, .int j, .int c]) (l0 : 0 ≤ lo) (l1 : lo ≤ 100000) (h0 : 0 ≤ j) (h1 : j ≤ 100000) (c0 : 0 < c) (c1 : c ≤ 100000) (Pv : Nat → L2.St → Hp → Prop) (hp0 : ∀ H1, Ex H H1 → Pv 0 σ H1)
    (hs : ∀ (k : Nat) σ' H', lo + (k : Int) * c < j → Pv k σ' H' → tu { D with nx := Pv (k + 1), ct := Pv (k + 1), bk := D.nx } (σ'.set i (some (.int (lo + (k : Int) * c)))) H') (hd : ∀ (k : Nat) σ' H', j ≤ lo + (k : Int) * c → Pv k σ' H' → D.nx σ' H') : tFor (iRng3 ta) (gName i) tu D σ H := by
  obtain ⟨n, hr, hn, he⟩ := RgC.upG l0 l1 h0 h1 c0 c1
  exact h H (Ex.refl H) _ fun H1 e1 => ⟨lo, j, c, n, rfl, hr, for_rangeC (lo := lo) (c := c) (n := n) Pv (hp0 H1 e1) (fun k σ' H' hk p => hs k σ' H' (hn k hk) p) fun σ' H' p => hd n σ' H' he p⟩
theorem q_forNEnC {xs : List V} {tl : TE} {c : Int} {i j : Nat} (h : EvL tl σ H xs) (Pv : Addr → Nat → L2.St → Hp → Prop) (h0 : ∀ p H1, H p = none → Ex H H1 → H1 p = some (.lst xs) → Pv p 0 σ H1) (hl : ∀ p n σ' H', n ≤ xs.length → Pv p n σ' H' → SqL K H' p xs)
    (hs : ∀ p n x σ' H', xs[n]? = some x → Pv p n σ' H' → ∀ H1, Ex H' H1 → tu { D with nx := Pv p (n + 1), ct := Pv p (n + 1), bk := tz D } ((σ'.set i (some (.int (c + (n : Nat))))).set j (some x)) H1) (hd : ∀ p σ' H', Pv p xs.length σ' H' → tz D σ' H') :
    tSeq (tFor (iEnumC K (tCons tl tNil) c) (g2 K i j) tu) tz D σ H := s_forNEnC (D := { D with nx := tz D }) h Pv h0 hl hs hd
theorem rv_notN {x : V} : RV (fun x y H Q => y = V.non ∧ Q (V.bl (!decide (x = V.non))) H) x .non H (.bl (!decide (x = .non))) := fun H1 e Q q => ⟨rfl, q H1 (Ex.refl H1)⟩
theorem rv_isN {x : V} : RV (fun x y H Q => y = V.non ∧ Q (V.bl (decide (x = V.non))) H) x .non H (.bl (decide (x = .non))) := fun H1 e Q q => ⟨rfl, q H1 (Ex.refl H1)⟩
/-! ### a comprehension whose items are drawn -/
theorem ewl_lcR1 {a : Addr} {d1 d2 : Nat} {N : Nat} {P : Int → Prop} {PE : V → Prop} {j : Nat} {vs : List Nat} (h : EvW a d1 te σ H (fun v => ∃ r, v = .int r ∧ P r)) (hP : ∀ r, P r → 0 ≤ r ∧ r ≤ N) (hN : N ≤ 40000) (hw : ∀ x, wipe ((wipe σ vs).set j (some x)) vs = wipe σ vs)
    (he : ∀ (i : Nat) H1, But a H H1 → EvW a d2 to' ((wipe σ vs).set j (some (.int (i : Int)))) H1 PE) :
    EvWL a (d1 + N * d2) (tLc (iRng1 (tCons te tNil)) (gName j) tYes to' vs) σ H (fun xs => ∃ r, P r ∧ (xs.length : Int) = r ∧ ∀ x ∈ xs, PE x) := fun n H0 b w l Q q =>
  h n H0 b w (by omega) _ fun v H1 b1 w1 ⟨r, er, pr⟩ => by
    subst er
    obtain ⟨r0, r1⟩ := hP r pr
    obtain ⟨m, rfl⟩ : ∃ m : Nat, r = m := ⟨r.toNat, by omega⟩
    have mle : m * d2 ≤ N * d2 := Nat.mul_le_mul_right _ (by omega)
    refine ⟨(m : Int), rfl, by omega, by omega, fun Dl hD => ?_⟩
    have nD : Dl ≠ a := w1.ne hD
    refine lc_range (lo := 0) (n := (m : Int).toNat) (fun i H' => But a H1 H' ∧ Well H' a (n + d1 + i * d2) ∧ ∃ xs, H' Dl = some (.lst xs) ∧ xs.length = i ∧ ∀ x ∈ xs, PE x) ⟨But.new hD, ?_, [], upd_same, rfl, fun x hx => nomatch hx⟩ (fun i H' hi p => ?_) (fun H' p => ?_)
    · rw [Nat.zero_mul, Nat.add_zero]
      exact w1.ex (Ex.new hD)
    · have e0 : (0 : Int) + (i : Int) = (i : Int) := Int.zero_add _
      show wipe ((wipe σ vs).set j (some (.int ((0 : Int) + (i : Int))))) vs = wipe σ vs ∧ tYes ((wipe σ vs).set j (some (.int ((0 : Int) + (i : Int))))) H' fun b H3 => if b = true then to' ((wipe σ vs).set j (some (.int ((0 : Int) + (i : Int))))) H3 fun y H4 => ∃ acc, H4 Dl = some (.lst acc) ∧ acc.length < sizeLine ∧ _ else _
      rw [e0]
      obtain ⟨p1, p2, xs, p3, p4, p5⟩ := p
      have hi' : i < m := by omega
      have ile : i * d2 + d2 ≤ m * d2 := by
        rw [← Nat.succ_mul]
        exact Nat.mul_le_mul_right _ hi'
      refine ⟨hw _, et_yes H' (Ex.refl H') _ fun H3 e3 => ?_⟩
      refine iteT (he i H3 (((b.trans b1).trans p1).trans (But.ex e3)) (n + d1 + i * d2) H3 (But.refl a H3) (p2.ex e3) (by omega) _ fun y H4 b4 w4 py => ?_)
      refine ⟨xs, b4 _ _ nD (e3 _ _ p3), sz_lt (by omega), ((p1.trans (But.ex e3)).trans b4).own hD, ?_, xs ++ [y], upd_same, by rw [List.length_append, p4]; rfl, fun x hx => ?_⟩
      · obtain ⟨x, y', c, q1, q2⟩ := w4
        refine ⟨x, y', c, by rw [upd_ne (Ne.symm nD)]; exact q1, ?_⟩
        rw [Nat.succ_mul]
        obtain ⟨q2, q3, q4, q5⟩ := q2
        exact ⟨q2, q3, q4, by omega⟩
      · rcases List.mem_append.mp hx with hx | hx
        · exact p5 x hx
        · rw [List.mem_singleton.mp hx]
          exact py
    · obtain ⟨p1, p2, xs, p3, p4, p5⟩ := p
      rw [Int.toNat_natCast] at p2 p4
      exact q Dl xs H' (but_free b1 w1 hD) (b1.trans p1) (p2.mono (by omega)) p3 ⟨(m : Int), pr, by rw [p4], p5⟩
end
section
variable {K : PySem.W.Frag} {σ : L2.St} {H : Hp} {ta tb te : TE} {a : Addr} {d1 d2 n : Nat} {D : Ends} {tz : TS}
/-- x, y = (drawn list, drawn list), by a tuple -/
theorem qw_tupLL {i j : Nat} {PA PB : List V → Prop} (h1 : EvWL a d1 ta σ H PA) (h2 : EvWL a d2 tb σ H PB) (w : Well H a n) (hl : n + (d1 + d2) ≤ 2 ^ 50)
    (k : ∀ p q xs ys H1, H p = none → H q = none → But a H H1 → Well H1 a (n + (d1 + d2)) → H1 p = some (.lst xs) → H1 q = some (.lst ys) → PA xs → PB ys → tz D ((σ.set i (some (.ref p))).set j (some (.ref q))) H1) :
    tSeq (tAsg (tTup (tCons ta (tCons tb tNil))) (gTup K 2 (gCons (gName i) (gCons (gName j) gNil)))) tz D σ H :=
  h1 n H (But.refl a H) w (by omega) _ fun p xs H2 hp b2 w2 g2 pa => h2 (n + d1) H2 b2 w2 (by omega) _ fun q ys H3 hq b3 w3 g3 pb => ⟨sz_of (by show 2 ≤ 100000; decide), fun r hr => ⟨r, _, rfl, st_of upd_same, rfl, _, _, rfl, _, _, rfl, rfl, by
    refine k p q xs ys _ hp (but_free b2 w2 hq) ((b2.trans b3).trans (But.new hr)) ?_ (Ex.new hr _ _ (b3 _ _ (w.ne hp) g2)) (Ex.new hr _ _ g3) pa pb
    rw [← Nat.add_assoc]
    exact w3.ex (Ex.new hr)⟩⟩
/-- x, y = (drawn, drawn), by a tuple -/
theorem qw_tupVV {i j : Nat} {PA PB : V → Prop} (h1 : EvW a d1 ta σ H PA) (h2 : EvW a d2 tb σ H PB) (w : Well H a n) (hl : n + (d1 + d2) ≤ 2 ^ 50)
    (k : ∀ x y H1, But a H H1 → Well H1 a (n + (d1 + d2)) → PA x → PB y → tz D ((σ.set i (some x)).set j (some y)) H1) :
    tSeq (tAsg (tTup (tCons ta (tCons tb tNil))) (gTup K 2 (gCons (gName i) (gCons (gName j) gNil)))) tz D σ H :=
  h1 n H (But.refl a H) w (by omega) _ fun x H2 b2 w2 pa => h2 (n + d1) H2 b2 w2 (by omega) _ fun y H3 b3 w3 pb => ⟨sz_of (by show 2 ≤ 100000; decide), fun r hr => ⟨r, _, rfl, st_of upd_same, rfl, _, _, rfl, _, _, rfl, rfl, by
    refine k x y _ ((b2.trans b3).trans (But.new hr)) ?_ pa pb
    rw [← Nat.add_assoc]
    exact w3.ex (Ex.new hr)⟩⟩
theorem el_callVL {sp : Sp} {x : V} {xs ys : List V} {E : XK} (h : Ev ta σ H x) (h2 : EvL tb σ H xs) (hs : ∀ p H1, Ex H H1 → H1 p = some (.lst xs) → SpL sp [x, .ref p] H1 ys) : EvL (tCall sp [] E (tCons ta (tCons tb tNil))) σ H ys := fun H1 e Q q =>
  h H1 e _ fun H2 e2 => h2 H2 (e.trans e2) _ fun p H3 hp e3 g3 => hs p H3 ((e.trans e2).trans e3) g3 H3 (Ex.refl H3) Q (fun r H4 hr e4 h4 => q r H4 (fresh_back (e2.trans e3) hr) ((e2.trans e3).trans e4) h4) E
theorem el_callLL {sp : Sp} {xs ys zs : List V} {E : XK} (h : EvL ta σ H xs) (h2 : EvL tb σ H ys) (hs : ∀ p q H1, Ex H H1 → H1 p = some (.lst xs) → H1 q = some (.lst ys) → SpL sp [.ref p, .ref q] H1 zs) : EvL (tCall sp [] E (tCons ta (tCons tb tNil))) σ H zs := fun H1 e Q q =>
  h H1 e _ fun p H2 hp e2 g2 => h2 H2 (e.trans e2) _ fun p' H3 hp' e3 g3 => hs p p' H3 ((e.trans e2).trans e3) (e3 _ _ g2) g3 H3 (Ex.refl H3) Q (fun r H4 hr e4 h4 => q r H4 (fresh_back (e2.trans e3) hr) ((e2.trans e3).trans e4) h4) E
theorem ew_mul {P1 P2 P : Int → Prop} (h1 : EvW a d1 ta σ H (fun v => ∃ r, v = .int r ∧ P1 r)) (h2 : EvW a d2 tb σ H (fun v => ∃ r, v = .int r ∧ P2 r)) (hc : ∀ x y, P1 x → P2 y → CMul x y) (h : ∀ x y, P1 x → P2 y → P (x * y)) :
    EvW a (d1 + d2) (tOp (rI CMul fun i j => .int (i * j)) ta tb) σ H (fun v => ∃ r, v = .int r ∧ P r) :=
  ew_op h1 h2 fun x y ⟨i, ei, p⟩ ⟨j, ej, p'⟩ => ⟨.int (i * j), fun H => by
    rw [ei, ej]
    exact rv_I (hc i j p p'), i * j, rfl, h i j p p'⟩
theorem ev_intB {b : Bool} (ha : Ev ta σ H (.bl b)) : Ev (tCB (fun xs H Q => (∃ i, xs = [.int i] ∧ Q (.int i) H) ∨ ∃ k, xs = [.bl k] ∧ Q (.int (if k then 1 else 0)) H) (tCons ta tNil)) σ H (.int (if b then 1 else 0)) := fun H1 e Q q =>
  ha H1 e _ fun H2 e2 => .inr ⟨b, rfl, q H2 e2⟩
end
theorem vi_of {P : Int → Prop} : ∀ {xs : List V}, (∀ x ∈ xs, ∃ z, x = V.int z ∧ P z) → ∃ cs, xs = vi cs ∧ ∀ z ∈ cs, P z
  | [], _ => ⟨[], rfl, fun _ h => nomatch h⟩
  | x :: xs, h => by
    obtain ⟨z, rfl, pz⟩ := h x List.mem_cons_self
    obtain ⟨cs, rfl, pc⟩ := vi_of fun y hy => h y (List.mem_cons_of_mem _ hy)
    refine ⟨z :: cs, rfl, fun y hy => ?_⟩
    rcases List.mem_cons.mp hy with e | hy
    · rw [e]
      exact pz
    · exact pc y hy
end Bk
namespace Bk
open PySem PySem.Spec PyProof.Rows L2 Evl
/-! ### xs[lo::step] -/
def stepV (xs : List V) (lo st : Option Int) : List V := (sliceRange (sliceBounds lo none st xs.length).1 (sliceBounds lo none st xs.length).2.1 (sliceBounds lo none st xs.length).2.2).filterMap fun i => xs[i]?
def rSlS (K : PySem.W.Frag) : V → Option Int → Option Int → Hp → VK → Prop := fun x lo st H Q => ∃ a xs, x = .ref a ∧ SqL K H a xs ∧ st ≠ some 0 ∧ ∀ p, H p = none → Q (.ref p) (upd H p (.lst (stepV xs lo st)))
def tSlS (r : V → Option Int → Option Int → Hp → VK → Prop) (te : TE) (tl ts : TO) : TE := fun σ H Q => te σ H fun x H1 => tl σ H1 fun l H2 => ts σ H2 fun c H3 => r x l c H3 Q
theorem pe_sliceS {X : Cx} {e : Expr} {te : TE} {lo : Option Expr} {st : Expr} {tl ts : TO} {pos p2 : Pos} (he : PE X e te) (hl : PO X lo tl) (hs : PO X (some st) ts) : PE X (.Subscript e (.Slice lo none (some st) p2) pos) (tSlS (rSlS X.K) te tl ts) := by
  refine ⟨fun pins s σ H Q I h => ?_⟩
  refine Subscript_ (thn (he.run pins s σ H _ I h) fun v s1 ⟨x, H1, I1, r1, q1⟩ => ?_)
  refine wpAny_Slice (thn (hl.run pins s1 σ H1 _ I1 q1) fun vl s2 ⟨l, H2, I2, pl, q2⟩ => ?_)
  rw [evalPart_none]
  refine wpAny_pure ?_
  refine thn (hs.run pins s2 σ H2 _ I2 q2) fun vs s3 ⟨c, H3, I3, ps, q3⟩ => ?_
  obtain ⟨a, xs, rfl, hx, h0, q⟩ := q3
  cases r1
  have I4 : Inv X pins σ H3 { s3 with heap := s3.heap.push { cls := .type "slice", data := .fields #[vl, .none, vs] } } := I3.kept (t' := s3.toks) fun b ob q => Heap.get?_push_of_some _ q
  obtain ⟨its, r, ht, hz⟩ := I4.list hx
  have hlen := r.length
  show wpAny (model X.prog X.w) X.A (subscriptTail e (.Slice lo none (some st) p2) (.ref a) (.ref s3.heap.objs.size)) (EP X pins σ Q) X.xe { s3 with heap := s3.heap.push { cls := .type "slice", data := .fields #[vl, .none, vs] } }
  refine tail_any (ops := [.ref a, .ref s3.heap.objs.size]) ht.isList.typeIs slot_list_getitem.lookup ?_ (by with_unfolding_all rfl)
  refine wpAny_getItem_list_slice ht.isList (Heap.IsSliceOf.new ..) pl .none ps h0 ?_ (by rw [List.size_toArray] <;> omega)
  have hv : Vals (stepV xs l c) ((sliceRange (sliceBounds l none c its.length).1 (sliceBounds l none c its.length).2.1 (sliceBounds l none c its.length).2.2).filterMap fun i => its[i]?) := by
    unfold stepV
    rw [hlen]
    exact vals_pick r _
  have hle := slicePick_size_le its.toArray l none c
  have hp : slicePick its.toArray l none c = ((sliceRange (sliceBounds l none c its.length).1 (sliceBounds l none c its.length).2.1 (sliceBounds l none c its.length).2.2).filterMap fun i => its[i]?).toArray := by
    unfold slicePick
    simp only [List.size_toArray, List.getElem?_toArray]
  rw [hp, List.size_toArray] at hle
  rw [hp]
  refine ⟨.ref _, _, I4.laid (t' := s3.toks) (o := .lst (stepV xs l c)) (fun b ob q => Heap.get?_push_of_some _ q) (Nat.le_refl _) ?_, rfl, q _ (I4.hok.fresh (Nat.le_refl _))⟩
  exact ⟨by rw [hv.length]; rw [List.size_toArray] at hle; omega, _, 0, hv, Heap.get?_push_size _ rfl⟩
theorem filterMap_all {α β : Type} {f : α → Option β} {g : α → β} : ∀ {l : List α}, (∀ i ∈ l, f i = some (g i)) → l.filterMap f = l.map g
  | [], _ => rfl
  | a :: l, h => by
    rw [List.filterMap_cons_some (h a List.mem_cons_self), filterMap_all fun i hi => h i (List.mem_cons_of_mem _ hi), List.map_cons]
theorem step_tab {xs : List Int} {c : Nat} (h0 : 1 ≤ c) (h1 : c ≤ xs.length) : stepV (vi xs) (some ((c : Int) - 1)) (some (c : Int)) = vi ((List.range (xs.length / c)).map fun i => xs.getD ((i + 1) * c - 1) 0) := by
  have eb : sliceBounds (some ((c : Int) - 1)) none (some (c : Int)) (vi xs).length = ((c : Int) - 1, (xs.length : Int), (c : Int)) := by
    rw [List.length_map]
    unfold sliceBounds
    simp only [Option.getD_some, show ¬ ((c : Int) - 1 < 0) by omega, show ((c : Int) > 0) by omega, if_true, if_false]
    rw [show max 0 (min ((c : Int) - 1) (xs.length : Int)) = (c : Int) - 1 by omega]
  unfold stepV
  rw [eb]
  show (sliceRange ((c : Int) - 1) (xs.length : Int) (c : Int)).filterMap _ = _
  have er : sliceRange ((c : Int) - 1) (xs.length : Int) (c : Int) = (List.range (xs.length / c)).map fun i => (i + 1) * c - 1 := by
    unfold sliceRange
    simp only [if_pos (show (c : Int) > 0 by omega), if_pos (show (c : Int) - 1 < (xs.length : Int) by omega)]
    rw [show ((xs.length : Int) - ((c : Int) - 1) + (c : Int) - 1) = (xs.length : Int) by omega, ← Int.natCast_ediv, Int.toNat_natCast]
    refine List.map_congr_left fun i _ => ?_
    have : ((c : Int) - 1 + (c : Int) * (i : Int)) = (((i + 1) * c : Nat) : Int) - 1 := by
      rw [Int.natCast_mul, Int.natCast_add, Int.add_mul, Int.mul_comm (c : Int)]
      omega
    show ((c : Int) - 1 + (c : Int) * (i : Int)).toNat = _
    rw [this]
    generalize (i + 1) * c = M
    omega
  rw [er, List.filterMap_map]
  unfold vi
  rw [List.map_map]
  refine filterMap_all fun i hi => ?_
  have hi := List.mem_range.mp hi
  have hle : (i + 1) * c ≤ xs.length := Nat.le_trans (Nat.mul_le_mul_right _ hi) (Nat.div_mul_le_self _ _)
  have hpos : 0 < (i + 1) * c := Nat.mul_pos (Nat.succ_pos i) (by omega)
  have hlt : (i + 1) * c - 1 < xs.length := by omega
  show (xs.map V.int)[(i + 1) * c - 1]? = some (V.int (xs.getD ((i + 1) * c - 1) 0))
  rw [List.getElem?_map, List.getD_eq_getElem?_getD, List.getElem?_eq_getElem hlt]
  rfl
section
variable {K : PySem.W.Frag} {σ : L2.St} {H : Hp} {ta tb te : TE}
theorem el_slS {a : Addr} {xs : List V} {tl ts : TO} {lo st : Option Int} (h : Ev te σ H (.ref a)) (h1 : EvO tl σ H lo) (h2 : EvO ts σ H st) (hx : SqL K H a xs) (h0 : st ≠ some 0) : EvL (tSlS (rSlS K) te tl ts) σ H (stepV xs lo st) := fun H1 e _ q =>
  h H1 e _ fun H2 e2 => h1 H2 (e.trans e2) _ fun H3 e3 => h2 H3 ((e.trans e2).trans e3) _ fun H4 e4 =>
    ⟨a, xs, rfl, ex_l (((e.trans e2).trans e3).trans e4) hx, h0, fun p hp => q p _ (fresh_back ((e2.trans e3).trans e4) hp) (((e2.trans e3).trans e4).trans (Ex.new hp)) upd_same⟩
end
end Bk
namespace Bk
open PySem PySem.Spec PyProof.Rows L2 Evl
/-! ### tuples compared -/
theorem rv_neT {K : PySem.W.Frag} {H : Hp} {p q : Addr} {ns ms : List Int} (h : SqT K H p (vi ns)) (h' : SqT K H q (vi ms)) : RV (rNeD K) (.ref p) (.ref q) H (.bl (!decide (ns = ms))) := fun H1 e Q k =>
  ⟨_, _, dp_tup (ex_t e h), dp_tup (ex_t e h'), shaped_t ns, shaped_t ms, by rw [eqv_t]; exact k H1 (Ex.refl H1)⟩
section
variable {K : PySem.W.Frag} {σ : L2.St} {H : Hp} {ta tb te : TE}
theorem ev_neUU {ns ms : List Int} (ha : EvU ta σ H (vi ns)) (hb : EvU tb σ H (vi ms)) : Ev (tOp (rNeD K) ta tb) σ H (.bl (!decide (ns = ms))) := fun H1 e Q k =>
  ha H1 e _ fun p H2 hp e2 h2 => hb H2 (e.trans e2) _ fun q H3 hq e3 h3 => rv_neT (st_of (e3 _ _ h2)) (st_of h3) H3 (Ex.refl H3) Q fun H4 e4 => k H4 ((e2.trans e3).trans e4)
theorem ev_neUT {p : Addr} {ns ms : List Int} (ha : EvU ta σ H (vi ns)) (hb : Ev tb σ H (.ref p)) (h : SqT K H p (vi ms)) : Ev (tOp (rNeD K) ta tb) σ H (.bl (!decide (ns = ms))) := fun H1 e Q k =>
  ha H1 e _ fun p H2 hp e2 h2 => hb H2 (e.trans e2) _ fun H3 e3 => rv_neT (st_of (e3 _ _ h2)) (ex_t ((e.trans e2).trans e3) h) H3 (Ex.refl H3) Q fun H4 e4 => k H4 ((e2.trans e3).trans e4)
end
section
variable {K : PySem.W.Frag} {σ : L2.St} {H : Hp} {ta tb te : TE} {a : Addr} {d1 d2 n : Nat} {D : Ends} {tz : TS}
theorem qw_tupUU {i j : Nat} {PA PB : List V → Prop} (h1 : EvWU a d1 ta σ H PA) (h2 : EvWU a d2 tb σ H PB) (w : Well H a n) (hl : n + (d1 + d2) ≤ 2 ^ 50)
    (k : ∀ p q xs ys H1, H p = none → H q = none → But a H H1 → Well H1 a (n + (d1 + d2)) → H1 p = some (.tup xs) → H1 q = some (.tup ys) → PA xs → PB ys → tz D ((σ.set i (some (.ref p))).set j (some (.ref q))) H1) :
    tSeq (tAsg (tTup (tCons ta (tCons tb tNil))) (gTup K 2 (gCons (gName i) (gCons (gName j) gNil)))) tz D σ H :=
  h1 n H (But.refl a H) w (by omega) _ fun p xs H2 hp b2 w2 g2 pa => h2 (n + d1) H2 b2 w2 (by omega) _ fun q ys H3 hq b3 w3 g3 pb => ⟨sz_of (by show 2 ≤ 100000; decide), fun r hr => ⟨r, _, rfl, st_of upd_same, rfl, _, _, rfl, _, _, rfl, rfl, by
    refine k p q xs ys _ hp (but_free b2 w2 hq) ((b2.trans b3).trans (But.new hr)) ?_ (Ex.new hr _ _ (b3 _ _ (w.ne hp) g2)) (Ex.new hr _ _ g3) pa pb
    rw [← Nat.add_assoc]
    exact w3.ex (Ex.new hr)⟩⟩
theorem qw_parVV {i j : Nat} {PA PB : V → Prop} (h1 : EvW a d1 ta σ H PA) (h2 : EvW a d2 tb σ H PB) (w : Well H a n) (hl : n + (d1 + d2) ≤ 2 ^ 50)
    (k : ∀ x y H1, But a H H1 → Well H1 a (n + (d1 + d2)) → PA x → PB y → tz D ((σ.set i (some x)).set j (some y)) H1) :
    tSeq (tPar i j (tCons ta (tCons tb tNil))) tz D σ H :=
  h1 n H (But.refl a H) w (by omega) _ fun x H2 b2 w2 pa => h2 (n + d1) H2 b2 w2 (by omega) _ fun y H3 b3 w3 pb => ⟨_, _, rfl, k x y _ (b2.trans b3) (by
    rw [← Nat.add_assoc]
    exact w3) pa pb⟩
theorem el_callUV {sp : Sp} {xs ys : List V} {y : V} {E : XK} (h : EvU ta σ H xs) (h2 : ∀ p H1, Ex H H1 → H1 p = some (.tup xs) → Ev tb σ H1 y) (hs : ∀ p H1, Ex H H1 → H1 p = some (.tup xs) → SpL sp [.ref p, y] H1 ys) : EvL (tCall sp [] E (tCons ta (tCons tb tNil))) σ H ys := fun H1 e Q q =>
  h H1 e _ fun p H2 hp e2 g2 => h2 p H2 (e.trans e2) g2 H2 (Ex.refl H2) _ fun H3 e3 => hs p H3 ((e.trans e2).trans e3) (e3 _ _ g2) H3 (Ex.refl H3) Q (fun r H4 hr e4 h4 => q r H4 (fresh_back (e2.trans e3) hr) ((e2.trans e3).trans e4) h4) E
end
section
variable {X : Cx} {K : PySem.W.Frag} {o e : Expr} {es : List Expr} {to : TE} {t : TA} {name : Str} {apos cpos : Pos} {T id : String} {r : V → List V → Hp → VK → Prop}
theorem pe_bmK (h : X.K = K) (pa : PlainAttrs T) (slot : Slot T name id) (hty : typeOf (.builtin id) = pure (.type "method_descriptor")) (hm : MtR X id r) (ho : PE X o to) (ha : PA X (e :: es) t)
    (hbase : attributeBase o name X.env (eval o X.env) = eval o X.env := by rfl)
    (hfew : ((backTo cpos (starEach (e :: es) X.env)).all (fun x => !x.1) && (backToKw cpos (keywordEach [] X.env)).all (fun x => x.1.isSome)
      && decide ((e :: es).length + ([] : List Keyword).length + (if ([] : List Keyword).isEmpty then 0 else 1) < 30)) = true := by rfl)
    (hline : (apos.endLine == cpos.line) = true := by rfl) (hs : starEach (e :: es) X.env = (false, eval e X.env) :: starEach es X.env := by rfl) (hplain : (backTo cpos (starEach es X.env)).any (·.1) = false := by rfl) :
    PE X (.Call (.Attribute o name apos) (e :: es) [] cpos) (tBM K T r to t) := by
  subst h
  exact pe_bm pa slot hty hm ho ha hbase hfew hline hs hplain
end
end Bk
namespace Bk
open PySem PySem.Spec PyProof.Rows L2 Evl
section
variable {K : PySem.W.Frag} {σ : L2.St} {H : Hp} {tl : TE} {a : Addr} {d : Nat} {sp : Sp} {E : XK}
/-- f(drawn list), a new list -/
theorem wl_callL {PA PB : List V → Prop} (h : EvWL a d tl σ H PA) (hs : ∀ p xs H1, H1 p = some (.lst xs) → PA xs → ∃ ys, SpL sp [.ref p] H1 ys ∧ PB ys) : EvWL a d (tCall sp [] E (tCons tl tNil)) σ H PB := fun n H1 b w l Q q =>
  h n H1 b w l _ fun p xs H2 hp b2 w2 h2 pa => by
    obtain ⟨ys, hy, pb⟩ := hs p xs H2 h2 pa
    exact hy H2 (Ex.refl H2) Q (fun r H3 hr e3 h3 => q r ys H3 (but_free b2 w2 hr) (b2.trans (But.ex e3)) (w2.ex e3) h3 pb) E
theorem sw_asgL' {D : Ends} {n : Nat} {i : Nat} {P : List V → Prop} {te : TE} (h : EvWL a d te σ H P) (w : Well H a n) (l : n + d ≤ 2 ^ 50) (k : ∀ p xs H1, H p = none → But a H H1 → Well H1 a (n + d) → H1 p = some (.lst xs) → P xs → D.nx (σ.set i (some (.ref p))) H1) : tAsg te (gName i) D σ H :=
  h n H (But.refl a H) w l _ fun p xs H2 hp b2 w2 h2 pa => k p xs H2 hp b2 w2 h2 pa
end
theorem ewl_mono {σ : L2.St} {H : Hp} {te : TE} {a : Addr} {d : Nat} {P P1 : List V → Prop} (x : EvWL a d te σ H P) (h : ∀ v, P v → P1 v) : EvWL a d te σ H P1 := fun n H1 b w l Q q => x n H1 b w l Q fun p v H2 hp b2 w2 g2 k => q p v H2 hp b2 w2 g2 (h v k)
/-- xs[j] = drawn -/
theorem sw_setL {K : PySem.W.Frag} {σ : L2.St} {H : Hp} {te ta tb : TE} {a : Addr} {d n : Nat} {D : Ends} {P : V → Prop} {l : Addr} {xs : List V} {j : Nat} (hl : H l = some (.lst xs)) (nl : l ≠ a) (h : EvW a d te σ H P) (ho : ∀ H1, Ev ta σ H1 (.ref l)) (hi : ∀ H1, Ev tb σ H1 (.int (j : Int))) (hj : j < xs.length) (w : Well H a n) (hn : n + d ≤ 2 ^ 50)
    (k : ∀ v H1, But a H H1 → Well H1 a (n + d) → P v → D.nx σ (upd H1 l (.lst (xs.set j v)))) : tAsg te (gSub ta tb rSetL) D σ H :=
  h n H (But.refl a H) w hn _ fun v H1 b1 w1 pv => ho H1 H1 (Ex.refl H1) _ fun H2 e2 => hi H2 H2 (Ex.refl H2) _ fun H3 e3 =>
    ⟨l, xs, (j : Int), j, rfl, rfl, (e2.trans e3) _ _ (b1 _ _ nl hl), ixN_nat hj, k v H3 (b1.trans (But.ex (e2.trans e3))) (w1.ex (e2.trans e3)) pv⟩
section
variable {K : PySem.W.Frag} {σ : L2.St} {H : Hp} {ta tb te : TE} {x z : V}
/-- a new list of which something is known -/
def EvLX (te : TE) (σ : L2.St) (H : Hp) (P : List V → Prop) : Prop := ∀ H1, Ex H H1 → ∀ Q : VK, (∀ p xs H2, H1 p = none → Ex H1 H2 → H2 p = some (.lst xs) → P xs → Q (.ref p) H2) → te σ H1 Q
def SpLX (sp : Sp) (vs : List V) (H : Hp) (P : List V → Prop) : Prop := ∀ H1, Ex H H1 → ∀ Q : VK, (∀ p xs H2, H1 p = none → Ex H1 H2 → H2 p = some (.lst xs) → P xs → Q (.ref p) H2) → ∀ E : XK, sp vs H1 Q E
theorem elx_call {sp : Sp} {vs : List V} {E : XK} {t : TA} {P : List V → Prop} (h : EvA t σ H vs) (hs : SpLX sp (vs ++ []) H P) : EvLX (tCall sp [] E t) σ H P := fun H1 e Q q =>
  h H1 e _ fun H2 e2 => hs H2 (e.trans e2) Q (fun p xs H3 hp e3 h3 k => q p xs H3 (fresh_back e2 hp) (e2.trans e3) h3 k) E
theorem elx_callK {sp : Sp} {gV : List V → List V → List V} {vs zs : List V} {E : XK} {t tk : TA} {P : List V → Prop} (h : EvA t σ H vs) (h' : EvA tk σ H zs) (hs : SpLX sp (gV vs zs) H P) : EvLX (tCallK sp gV E t tk) σ H P := fun H1 e Q q =>
  h H1 e _ fun H2 e2 => h' H2 (e.trans e2) _ fun H3 e3 => hs H3 ((e.trans e2).trans e3) Q (fun p xs H4 hp e4 h4 k => q p xs H4 (fresh_back (e2.trans e3) hp) ((e2.trans e3).trans e4) h4 k) E
theorem ev_callVLX {sp : Sp} {E : XK} {P : List V → Prop} (h : Ev ta σ H x) (h2 : EvLX tb σ H P) (hs : ∀ p xs H1, Ex H H1 → H1 p = some (.lst xs) → P xs → SpV sp [x, .ref p] H1 z) : Ev (tCall sp [] E (tCons ta (tCons tb tNil))) σ H z := fun H1 e Q q =>
  h H1 e _ fun H2 e2 => h2 H2 (e.trans e2) _ fun p xs H3 hp e3 g3 k => hs p xs H3 ((e.trans e2).trans e3) g3 k H3 (Ex.refl H3) Q (fun H4 e4 => q H4 ((e2.trans e3).trans e4)) E
theorem q_asgLX {D : Ends} {tz : TS} {i : Nat} {P : List V → Prop} (h : EvLX te σ H P) (k : ∀ p xs H1, H p = none → Ex H H1 → H1 p = some (.lst xs) → P xs → tz D (σ.set i (some (.ref p))) H1) : tSeq (tAsg te (gName i)) tz D σ H :=
  h H (Ex.refl H) _ fun p xs H1 hp e1 h1 pk => k p xs H1 hp e1 h1 pk
end
end Bk
namespace Bk
open PySem PySem.Spec PyProof.Rows L2 Evl
/-! ### math.gcd, math.lcm -/
def rLcm : List V → Hp → VK → Prop := fun vs H Q => ∃ a b : Int, vs = [.int a, .int b] ∧ a.natAbs < 2 ^ 64 ∧ b.natAbs < 2 ^ 64 ∧ Q (.int ((Nat.lcm a.natAbs b.natAbs : Nat) : Int)) H
theorem cr_lcm {X : Cx} : CallR X (.builtin "math.lcm") rLcm := by
  intro pins s σ H vs us Q I r h
  obtain ⟨a, b, rfl, ha, hb, q⟩ := h
  obtain ⟨t, u, rfl⟩ := Vals.int2 r
  have e : ((Nat.lcm 1 a.natAbs).lcm b.natAbs) = Nat.lcm a.natAbs b.natAbs := by rw [Nat.lcm_one_left]
  refine PySem.W.mg_lcm_v (c := ((Nat.lcm a.natAbs b.natAbs : Nat) : Int)) ha hb (by rw [e]) ?_ ⟨.int _, H, I.tok _, ⟨_, rfl⟩, q⟩
  rw [Int.natAbs_natCast]
  have h1 : Nat.lcm a.natAbs b.natAbs ≤ a.natAbs * b.natAbs := by
    by_cases h0 : a.natAbs * b.natAbs = 0
    · rcases Nat.mul_eq_zero.mp h0 with z | z
      · rw [z, Nat.lcm_zero_left]; exact Nat.zero_le _
      · rw [z, Nat.lcm_zero_right]; exact Nat.zero_le _
    · exact Nat.le_of_dvd (Nat.pos_of_ne_zero h0) (Nat.lcm_dvd_mul _ _)
  have h2 : a.natAbs * b.natAbs < 2 ^ 64 * 2 ^ 64 := Nat.mul_lt_mul'' ha hb
  exact Nat.lt_of_lt_of_le (PySem.Flt.log2_lt_of (k := 128) (by decide) (by omega)) (by decide)
section
variable {K : PySem.W.Frag} {σ : L2.St} {H : Hp} {ta tb te : TE} {a b : Int}
theorem ev_gcd (ha : Ev ta σ H (.int a)) (hb : Ev tb σ H (.int b)) : Ev (tCB rGcd (tCons ta (tCons tb tNil))) σ H (.int ((Nat.gcd a.natAbs b.natAbs : Nat) : Int)) := fun H1 e Q q =>
  ha H1 e _ fun H2 e2 => hb H2 (e.trans e2) _ fun H3 e3 => ⟨a, b, rfl, q H3 (e2.trans e3)⟩
theorem ev_lcm (ha : Ev ta σ H (.int a)) (hb : Ev tb σ H (.int b)) (h1 : a.natAbs < 2 ^ 64) (h2 : b.natAbs < 2 ^ 64) : Ev (tCB rLcm (tCons ta (tCons tb tNil))) σ H (.int ((Nat.lcm a.natAbs b.natAbs : Nat) : Int)) := fun H1 e Q q =>
  ha H1 e _ fun H2 e2 => hb H2 (e.trans e2) _ fun H3 e3 => ⟨a, b, rfl, h1, h2, q H3 (e2.trans e3)⟩
end
/-! ### None or a pair of a number and a text -/
def BarV (b : Option (Nat × Str)) (v : V) (H : Hp) : Prop := match b with
  | none => v = .non
  | some (n, s) => ∃ p, v = .ref p ∧ H p = some (.tup [.int (n : Int), .str s])
theorem BarV.ex {b : Option (Nat × Str)} {v : V} {H H' : Hp} (h : BarV b v H) (e : Ex H H') : BarV b v H' := by
  cases b with
  | none => exact h
  | some x =>
    obtain ⟨p, e1, e2⟩ := h
    exact ⟨p, e1, e _ _ e2⟩
theorem BarV.isN {b : Option (Nat × Str)} {v : V} {H : Hp} (h : BarV b v H) : decide (v = .non) = b.isNone := by
  cases b with
  | none =>
    have h' : v = .non := h
    rw [h']
    rfl
  | some x =>
    obtain ⟨p, e1, e2⟩ := h
    rw [e1]
    rfl
def RetB (b : Option (Nat × Str)) (H : Hp) (Q : VK) : Prop := ∀ v H2, Ex H H2 → BarV b v H2 → Q v H2
def SpB (sp : Sp) (vs : List V) (H : Hp) (b : Option (Nat × Str)) : Prop := ∀ H1, Ex H H1 → ∀ Q : VK, RetB b H1 Q → ∀ E : XK, sp vs H1 Q E
def EvB (te : TE) (σ : L2.St) (H : Hp) (b : Option (Nat × Str)) : Prop := ∀ H1, Ex H H1 → ∀ Q : VK, RetB b H1 Q → te σ H1 Q
section
variable {K : PySem.W.Frag} {σ : L2.St} {H : Hp} {ta tb te : TE} {t : TA} {sp : Sp} {E : XK} {vs xs : List V} {b : Option (Nat × Str)} {D : Ends} {tz : TS} {i : Nat}
theorem eb_call (h : EvA t σ H vs) (hs : SpB sp (vs ++ []) H b) : EvB (tCall sp [] E t) σ H b := fun H1 e Q q =>
  h H1 e _ fun H2 e2 => hs H2 (e.trans e2) Q (fun v H3 e3 h3 => q v H3 (e2.trans e3) h3) E
theorem eb_callK {gV : List V → List V → List V} {zs : List V} {tk : TA} (h : EvA t σ H vs) (h' : EvA tk σ H zs) (hs : SpB sp (gV vs zs) H b) : EvB (tCallK sp gV E t tk) σ H b := fun H1 e Q q =>
  h H1 e _ fun H2 e2 => h' H2 (e.trans e2) _ fun H3 e3 => hs H3 ((e.trans e2).trans e3) Q (fun v H4 e4 h4 => q v H4 ((e2.trans e3).trans e4) h4) E
theorem eb_callL (h : EvL te σ H xs) (hs : ∀ p H1, Ex H H1 → H1 p = some (.lst xs) → SpB sp [.ref p] H1 b) : EvB (tCall sp [] E (tCons te tNil)) σ H b := fun H1 e Q q =>
  h H1 e _ fun p H2 hp e2 h2 => hs p H2 (e.trans e2) h2 H2 (Ex.refl H2) Q (fun v H3 e3 h3 => q v H3 (e2.trans e3) h3) E
theorem ev_bN (h : EvB te σ H b) : Ev (tOp (fun x y H Q => y = V.non ∧ Q (V.bl (decide (x = V.non))) H) te (tC .non)) σ H (.bl b.isNone) := fun H1 e Q q =>
  h H1 e _ fun v H2 e2 h2 => ⟨rfl, by
    rw [h2.isN]
    exact q H2 e2⟩
theorem ev_bS (h : EvB te σ H b) : Ev (tOp (fun x y H Q => y = V.non ∧ Q (V.bl (!decide (x = V.non))) H) te (tC .non)) σ H (.bl b.isSome) := fun H1 e Q q =>
  h H1 e _ fun v H2 e2 h2 => ⟨rfl, by
    rw [h2.isN]
    cases b
    · exact q H2 e2
    · exact q H2 e2⟩
theorem q_asgB (h : EvB te σ H b) (k : ∀ v H1, Ex H H1 → BarV b v H1 → tz D (σ.set i (some v)) H1) : tSeq (tAsg te (gName i)) tz D σ H :=
  h H (Ex.refl H) _ fun v H1 e1 h1 => k v H1 e1 h1
theorem s_retB (h : EvB te σ H b) (k : ∀ v H1, Ex H H1 → BarV b v H1 → D.rt v H1) : tRet te D σ H := h H (Ex.refl H) _ k
theorem s_retBn {n : Nat} {s : Str} {k : Int} (h : Ev ta σ H (.int k)) (hk : k = (n : Int)) (h' : ∀ H1, Ex H H1 → Ev tb σ H1 (.str s)) (q : ∀ v H1, Ex H H1 → BarV (some (n, s)) v H1 → D.rt v H1) : tRet (tTup (tCons ta (tCons tb tNil))) D σ H :=
  h H (Ex.refl H) _ fun H1 e1 => h' H1 e1 H1 (Ex.refl H1) _ fun H2 e2 => ⟨sz_of (by show 2 ≤ 100000; decide), fun p hp => q (.ref p) _ ((e1.trans e2).trans (Ex.new hp)) ⟨p, rfl, by
    rw [upd_same, hk]⟩⟩
end
/-! ### a value of which something is known -/
def EvX (te : TE) (σ : L2.St) (H : Hp) (P : V → Prop) : Prop := ∀ H1, Ex H H1 → ∀ Q : VK, (∀ v H2, Ex H1 H2 → P v → Q v H2) → te σ H1 Q
def SpX (sp : Sp) (vs : List V) (H : Hp) (P : V → Prop) : Prop := ∀ H1, Ex H H1 → ∀ Q : VK, (∀ v H2, Ex H1 H2 → P v → Q v H2) → ∀ E : XK, sp vs H1 Q E
section
variable {K : PySem.W.Frag} {σ : L2.St} {H : Hp} {ta tb te tl : TE} {t : TA} {tt : TT} {sp : Sp} {E : XK} {vs xs : List V} {D : Ends} {tz tu tw : TS} {i : Nat} {P : V → Prop}
theorem evx_call (h : EvA t σ H vs) (hs : SpX sp (vs ++ []) H P) : EvX (tCall sp [] E t) σ H P := fun H1 e Q q =>
  h H1 e _ fun H2 e2 => hs H2 (e.trans e2) Q (fun v H3 e3 h3 => q v H3 (e2.trans e3) h3) E
theorem q_asgX (h : EvX te σ H P) (k : ∀ v H1, Ex H H1 → P v → tz D (σ.set i (some v)) H1) : tSeq (tAsg te (gName i)) tz D σ H :=
  h H (Ex.refl H) _ fun v H1 e1 h1 => k v H1 e1 h1
/-- a comprehension over a new tuple -/
theorem el_lcNT {j : Nat} {ws : List Nat} (f : Nat → Bool) (v : Nat → V) (h : EvU tl σ H xs) (hz : xs.length ≤ 40000) (hw : ∀ x, wipe ((wipe σ ws).set j (some x)) ws = wipe σ ws)
    (ht : ∀ (i : Nat) (x : V) H1, Ex H H1 → xs[i]? = some x → EvT tt ((wipe σ ws).set j (some x)) H1 (f i)) (he : ∀ (i : Nat) (x : V) H1, Ex H H1 → xs[i]? = some x → f i = true → Ev te ((wipe σ ws).set j (some x)) H1 (v i)) :
    EvL (tLc (iTup K tl) (gName j) tt te ws) σ H (given xs.length f v) := fun H0 e Q q => h H0 e _ fun a H1 ha e1 h1 => ⟨a, rfl, ⟨xs, st_of h1⟩, fun Dl hD =>
  lc_tup (xs := xs) (Cw H1 f v Dl) ⟨hD, Ex.new hD, upd_same⟩ (fun i H' _ p => st_of (p.2.1 _ _ h1)) (fun i x H' hi p => ⟨hw x, cw_turn p (by have := (List.getElem?_eq_some_iff.mp hi).1; omega) (ht i x H1 (e.trans e1) hi) (fun hf => he i x H1 (e.trans e1) hi hf)⟩)
    (fun H' p => q Dl H' (fresh_back e1 p.1) (e1.trans p.2.1) p.2.2)⟩
variable {a : Addr} {d n : Nat}
theorem sw_ifB (h : EvW a d te σ H (fun v => ∃ b, v = .bl b)) (w : Well H a n) (l : n + d ≤ 2 ^ 50) (k1 : ∀ H1, But a H H1 → Well H1 a (n + d) → tu D σ H1)
    (k2 : ∀ H1, But a H H1 → Well H1 a (n + d) → tw D σ H1) : tIfS (tTest te) tu tw D σ H :=
  h n H (But.refl a H) w l _ fun v H2 b2 w2 ⟨b, e⟩ => ⟨b, e, by
    cases b with
    | true => exact iteT (k1 H2 b2 w2)
    | false => exact iteF (k2 H2 b2 w2)⟩
end
end Bk
namespace Bk
open PySem PySem.Spec PyProof.Rows L2 Evl
/-! ### an own error class whose __init__ says super().__init__('..') and keeps one field -/
/-- the def of a class, by its place in the class -/
def clsDef (st : Stmt) (i : Nat) : Stmt := match st with
  | .ClassDef _ _ _ b _ _ _ _ _ _ _ => b.getD i (.Pass ⟨0, 0, 0, 0⟩)
  | s => s
/-- the names of such an __init__ -/
structure SupS (f : Str) (sc : Scope) : Prop where
  kind : sc.kind = .function
  co : sc.isCoroutine = false
  gen : sc.isGenerator = false
  nocell : ∀ x ∈ sc.names, x.2 ≠ .cell
  free : ∀ x ∈ sc.names, x.2 = .free → x.1 = "__class__"
  self : sc.names.lookup ("self" : Str) = some .local
  field : sc.names.lookup f = some .local
  sup : sc.names.lookup ("super" : Str) = some .globalImplicit
  cls : sc.names.lookup ("__class__" : Str) = some .free
  fs : f ≠ "self"
  fd : (f == ("__debug__" : Str)) = false
  fc : (f == ("__classdict__" : Str)) = false
structure SupC (P : Program) (K : PySem.W.Frag) (mg : Str → Option Value) (C fI : Addr) (fd : FuncData) (f : Str) (st : Stmt) : Prop where
  ox : OexC K C
  iC : PySem.W.findIn K (.ref C) "__init__" = some (some (.ref fI))
  tI : PySem.W.typeIn K (.ref fI) = some (.type "function")
  nf : PySem.W.findIn K (.ref C) f = some none
  up : PySem.W.ks_superIn K C C "__init__" = some (some (.builtin "ValueError.__init__"))
  sB : PySem.W.subIn K (.ref C) (.type "ValueError") = some true
  sC : PySem.W.mroIn K C (.ref C) = some true
  no : PySem.W.nsIn K cStatics "thirdparty.any" = some none
  gS : mg "super" = none
  fn : ∃ qual oc od kV doc pm an cda ct cc osl cl cld csl ccl cdd ccs vs file tf, fd = PySem.W.fnX "__init__" qual (defArgs st) (defBody st) (defScope st) [("__class__", cc)] .none kV doc pm an (.ref cda) ct ∧
    K.lookup fI = some ⟨oc, od, .func fd, osl⟩ ∧ PySem.W.codeIn K (.ref cda) qual = true ∧
    K.lookup cc = some ⟨cl, cld, .cell (some (.ref C)), csl⟩ ∧ K.lookup cda = some ⟨ccl, cdd, .fields vs, ccs⟩ ∧ vs[2]? = some (.str file tf) ∧ ((P.main.file : Str) == file) = true
  top : (P.main.scope.names.lookup ("super" : Str)).isSome = false
  arg : ∃ ar, ((defArgs st).posonlyargs ++ (defArgs st).args).head? = some ar ∧ ar.arg = "self"
  body : ∃ p0 p1 p2 p3 p4 p5 p6 p7 p8 p9 m j, defBody st = [.Expr (.Call (.Attribute (.Call (.Name "super" p0) [] [] p1) "__init__" p2) [.Constant (.str m) j p3] [] p4) p5, .Assign [.Attribute (.Name "self" p6) f p7] (.Name f p8) p9] ∧
    (∀ env, ∃ pl : Sem Bool, eval (.Call (.Attribute (.Call (.Name "super" p0) [] [] p1) "__init__" p2) [.Constant (.str m) j p3] [] p4) env = (do
      let ov ← attributeBase (.Call (.Name "super" p0) [] [] p1) "__init__" env (eval (.Call (.Name "super" p0) [] [] p1) env)
      standAt p2.atName
      let (g, first) ← holding [ov] (getMethod ov "__init__" pl)
      callWith p4 g first (backTo p4 (starEach [.Constant (.str m) j p3] env)) [])) ∧
    ∀ env, swapsWith (.Name f p8) (some (.Attribute (.Name "self" p6) f p7)) p9.line env = pure false
  sc : SupS f (defScope st)

/-- the promise: the error gets its dict -/
def sp_sup (C : Addr) (f : Str) : Sp := fun vs H Q _ => ∃ (a : Addr) (v : V), vs = [.ref a, v] ∧ H a = some (exo a C none) ∧ ∀ dx, H dx = none → dx ≠ a → Q .non (upd (upd H dx (exd dx [(f, v)])) a (exo a C (some dx)))

section
variable {P : Program} {w : World} {K : PySem.W.Frag} {mg : Str → Option Value} {base : Heap} {C fI : Addr} {fd : FuncData} {f : Str} {st : Stmt}
/-- the frame of that def -/
def cxSup (P : Program) (w : World) (K : PySem.W.Frag) (mg : Str → Option Value) (base : Heap) (f : Str) (fd : FuncData) (fI : Addr) (A : Around) (out : List Env) (s : Shared) (H : Hp) (xe : Value → Shared → Prop) : Cx where
  prog := P
  w := w
  K := K
  mg := mg
  base := base
  A := A.deeper (callEnv fd s.heap.objs.size fI)
  N := ["self", f]
  s_0 := s
  H_0 := H
  env := callEnv fd s.heap.objs.size fI
  outer := out
  stack := callEnv fd s.heap.objs.size fI :: out
  ex := []
  fn := fun x => decide (x ≠ "__class__")
  calm := true
  pn := []
  xe := xe
theorem look1 {cc c : Addr} {x : Str} (h : ([(("__class__" : Str), cc)] : List (Str × Addr)).lookup x = some c) : x = "__class__" ∧ c = cc := by
  by_cases e : x = ("__class__" : Str)
  · subst e
    have z : some cc = some c := h
    exact ⟨rfl, (Option.some.inj z).symm⟩
  · have e' : (x == ("__class__" : Str)) = false := by simpa using e
    simp [List.lookup, e'] at h
theorem lkA {x f : Str} {u0 u1 : Value} (h : f ≠ x) : List.lookup x [(f, u1), (x, u0)] = some u0 := by
  have e : (x == f) = false := by simpa using Ne.symm h
  simp [List.lookup, e]
theorem lkB {x f : Str} {u0 u1 : Value} : List.lookup f [(f, u1), (x, u0)] = some u1 := by simp [List.lookup]
theorem two_of {vs : List V} {us : List Value} (r : Vals vs us) (hl : us.length = 2) : ∃ u0 u1 v0 v1, us = [u0, u1] ∧ vs = [v0, v1] ∧ RelV v0 u0 ∧ RelV v1 u1 := by
  cases r with
  | nil => cases hl
  | cons r0 r' =>
    cases r' with
    | nil => cases hl
    | cons r1 r'' =>
      cases r'' with
      | nil => exact ⟨_, _, _, _, rfl, rfl, r0, r1⟩
      | cons _ _ => simp at hl
theorem inv_sup {A : Around} {out : List Env} {s : Shared} {H : Hp} {xe : Value → Shared → Prop} {h₀ : Heap} {t : Nat} (S : SupC P K mg C fI fd f st)
    (hd : A.handled = none) (e0 : Env0 P w K mg base A out s H) {u0 u1 : Value} {v0 v1 : V} (r0 : RelV v0 u0) (r1 : RelV v1 u1) (hn : h₀.Ns s.heap.objs.size (fun x => List.lookup x [(f, u1), (("self" : Str), u0)])) (k : ∀ b o, s.heap.get? b = some o → h₀.get? b = some o) :
    Inv (cxSup P w K mg base f fd fI A out s H xe) [] [some v0, some v1] H { s with heap := h₀, toks := t } := by
  obtain ⟨qual, oc, od, kV, doc, pm, an, cda, ct, cc, osl, cl, cld, csl, ccl, cdd, ccs, us', file, tf, rfl, h2, h3, h4, _⟩ := S.fn
  have SC := S.sc
  have hK : K.In s.heap := e0.mod.kin.keeps fun b o e => (e0.bs b o e).1
  have hcc := e0.mod.kin _ _ h4
  have noA : ∀ b : Addr, b ∉ (cxSup P w K mg base f (PySem.W.fnX "__init__" qual (defArgs st) (defBody st) (defScope st) [("__class__", cc)] .none kV doc pm an (.ref cda) ct) fI A out s H xe).ex := fun b z => absurd (show b ∈ ([] : List Addr) from z) (by simp)
  refine ⟨⟨e0.mod, SC.kind, rfl, rfl, Nat.le_refl _, fun y z c h1 h2 => ?_, fun y hy => ?_, fun y c hy h => ?_, fun _ => hd, Around.frames_deeper e0.frames, .inr ⟨rfl, rfl⟩, fun b z => absurd z (noA b), e0.bs, e0.bsz, fun b _ _ => noA b, fun b z => absurd z (noA b), e0.funs, e0.frf⟩,
    rfl, e0.bare, Un.kept k, ⟨_, hn, fun i y v h1 h2 h3 => ?_⟩, fun y c h => ?_, e0.hok.fresh (Nat.le_refl _), fun y c h => ?_, fun p hp => absurd (show p ∈ ([] : List (Addr × Obj)) from hp) (by simp), e0.hok.kept k, ?_⟩
  · rw [(look1 h1).1, (look1 h2).1]
  · have hy : (defScope st).names.lookup y = some .cell ∨ (defScope st).names.lookup y = some .free := hy
    rcases hy with hy | hy
    · exact absurd rfl (SC.nocell _ (PySem.mem_of_lookup hy))
    · have e : y = ("__class__" : Str) := SC.free _ (PySem.mem_of_lookup hy) rfl
      rw [e]
      exact ⟨cc, rfl⟩
  · have e := (look1 h).1
    exact absurd e (of_decide_eq_true hy)
  · match i, h1, h2 with
    | 0, h1, h2 =>
      have ey := Option.some.inj h1
      have ev := Option.some.inj (Option.some.inj h2)
      subst ey ev
      exact ⟨u0, r0, .inl ⟨SC.self, lkA SC.fs⟩⟩
    | 1, h1, h2 =>
      have ey := Option.some.inj h1
      have ev := Option.some.inj (Option.some.inj h2)
      subst ey ev
      exact ⟨u1, r1, .inl ⟨SC.field, lkB⟩⟩
    | i + 2, h1, h2 => cases h1
  · obtain ⟨e1, e2⟩ := look1 h
    subst e1 e2
    exact ⟨_, _, k _ _ (e0.bs _ _ hcc).1, rfl⟩
  · obtain ⟨e1, e2⟩ := look1 h
    subst e1 e2
    exact (e0.bs _ _ hcc).2
  · rfl
/-- ValueError.__init__ held by a method-wrapper, called: the error stays one -/
theorem wrap_call {X : Cx} {pins : List (Addr × Obj)} {σ : L2.St} {H : Hp} {s : Shared} {u a : Addr} {v : Value} {Q : Value → Shared → Prop} {E : Value → Shared → Prop} (T : OexC X.K C) (I : Inv X pins σ H s) (hu : s.heap.get? u = some (PySem.W.kxs_mw "ValueError.__init__" a)) (e : H a = some (exo a C none))
    (k : ∀ s', Inv X pins σ H s' → Q .none s') : wpAny (model X.prog X.w) X.A (call (.ref u) [v]) Q E s := by
  obtain ⟨nm, q, N, bs, bm, sn, sub, ab, col, dd, k0, k1, k2, k3, k5, hC, hbm⟩ := T.cls
  obtain ⟨t1, ho⟩ := exo_at I.hok e
  have hCs := I.kIn _ _ hC
  obtain ⟨hh, g, d, tk, os⟩ := s
  have nmeth : (Value.type "method-wrapper" == Value.type "method" || Value.type "method-wrapper" == Value.type "builtin_function_or_method" || Value.type "method-wrapper" == Value.type "method-wrapper") = true := by decide
  refine wpAny_call (codeAny_of_tree ?_)
  show wpAny _ X.A.in1 (callAny (.ref u) ⟨[v], []⟩) _ _ _
  simp only [callAny]
  refine wpAny_bind (wpAny_load hu ?_)
  simp only [PySem.W.kxs_mw, nmeth, if_true]
  refine PySem.W.KFB.if_so (by decide) ?_
  refine wpAny_bind (PySem.W.check_bound_init F.excBase_ValueError.toExcCallFacts hCs ho rfl ?_)
  refine wpAny_bind (wpAny_pure (wpAny_pure ⟨plainId_quiet F.excBase_ValueError.init.plain _, codeAny_builtin F.excBase_ValueError.initEntry ?_⟩))
  have go : ∀ h', (∀ b o, b ≠ a → hh.get? b = some o → h'.get? b = some o) → h'.get? a = some (PySem.W.excObj C hh.objs.size none .none) → Q .none ⟨h', g, d, tk, os⟩ := fun h' kk hx => by
    have J := I.write (t' := tk) (x := a) (e := a) (o := exo a C none) (by rw [e]; exact True.intro) (.inl rfl) kk ⟨_, hx⟩ (exo_ok hx)
    have eu : upd H a (exo a C none) = H := by
      funext b
      by_cases hb : b = a
      · rw [hb, upd_same, e]
      · rw [upd_ne hb]
    rw [eu] at J
    exact k _ J
  exact PySem.W.exc_init_tree (cls := .ref C) (t0 := t1) (dv := none) (c2 := .none) (c3 := .none) (b4 := .bool false) ho (by show 1 ≤ sizeLine; rw [sizeLine_eq]; omega) fun h' kk hx _ => go h' kk hx

theorem sup_ok (S : SupC P K mg C fI fd f st) : FnOk P w K mg base CX0 1 fI fd ["self", f] (sp_sup C f) := by
  refine ⟨fun vs H Q E ⟨a, v, e, _⟩ => by rw [e]; rfl, ?_⟩
  intro A out s H args us vs Q E hr e0 hb rv hsp
  obtain ⟨a, v, rfl, ea, q⟩ := hsp
  obtain ⟨u0, u1, v0, v1, rfl, ev, r0, r1⟩ := two_of rv (by rw [← rv.length]; rfl)
  obtain rfl : v0 = V.ref a := (List.cons.inj ev).1.symm
  obtain rfl : v1 = v := ((List.cons.inj (List.cons.inj ev).2).1).symm
  obtain rfl : u0 = Value.ref a := r0
  have SC := S.sc
  have hK : K.In s.heap := e0.mod.kin.keeps fun b o e => (e0.bs b o e).1
  have noL : s.heap.NoLimit := e0.mod.nolimit.keeps fun b o e => (e0.bs b o e).1
  obtain ⟨qual, oc, od, kV, doc, pm, an, cda, ct, cc, osl, cl, cld, csl, ccl, cdd, ccs, ws, file, tf, efd, h2, h3, h4, h5, h6, h7⟩ := S.fn
  have hkk : fd.scope.kind = .function := by rw [efd]; exact SC.kind
  have bz : ((["self", f] : List Str).zip [Value.ref a, u1]) = [(("self" : Str), Value.ref a), (f, u1)] := rfl
  rw [bz] at hb
  refine ks_codeAny_call_defAt (fd := fd) (body := defBody st) (binds := [(("self" : Str), Value.ref a), (f, u1)]) hr.depth (hK _ _ h2) rfl noL (by rw [efd]; exact PySem.W.codeRec_of hK h3) (by rw [efd]) hb (by rw [efd]; exact SC.nocell) ?_ (fun h₀ hn k => ?_) (by rw [efd]; exact SC.co) (by rw [efd]; exact SC.gen) hkk
  · intro y hy
    rw [efd]
    rcases List.mem_cons.mp hy with e | hy
    · rw [e]
      exact SC.self
    · rw [List.mem_singleton.mp hy]
      exact SC.field
  have I := inv_sup (base := base) (w := w) (f := f) (fd := fd) (A := A) (out := out) (h₀ := h₀) (t := s.toks + 2) (xe := fun e s' => wpAny (model P w) (A.deeper (callEnv fd s.heap.objs.size fI)) (leaving (callEnv fd s.heap.objs.size fI) e) (fun _ s'' => CR CX0 out P w H s Q E (.error e) s'') (fun e' s'' => CR CX0 out P w H s Q E (.error e') s'') s') S hr.hd e0 (u0 := Value.ref a) (v0 := V.ref a) rfl r1 hn k
  generalize hX : cxSup P w K mg base f fd fI A out s H _ = X at I
  have xP : X.prog = P := by rw [← hX]; rfl
  have xw : X.w = w := by rw [← hX]; rfl
  have xK : X.K = K := by rw [← hX]; rfl
  have xm : X.mg = mg := by rw [← hX]; rfl
  have xA : X.A = A.deeper (callEnv fd s.heap.objs.size fI) := by rw [← hX]; rfl
  have xe : X.env = callEnv fd s.heap.objs.size fI := by rw [← hX]; rfl
  have xN : X.N = [("self" : Str), f] := by rw [← hX]; rfl
  have sc : X.env.scope = defScope st := by rw [xe, efd]; rfl
  have cl : X.env.cells = [(("__class__" : Str), cc)] := by rw [xe, efd]; rfl
  have fin : ∀ (fl : Flow) (s' : Shared), SP X [] { nx := fun _ H' => Q .non H', rt := Q } fl s' → CR CX0 out P w H s Q E (.ok (.ret (match fl with | .ret v => v | _ => .none))) s' := fun fl s' hs => by
    have un : ∀ {σ' : L2.St} {H' : Hp}, Inv X [] σ' H' s' → s'.os = s.os ∧ AllBare s'.gens ∧ Un (frs out) [] H H' s.heap s'.heap ∧ HOk P w H' s'.heap := fun J => by
      subst hX
      exact ⟨J.os, J.bare, J.base, J.hok⟩
    cases fl with
    | next =>
      obtain ⟨σ', H', J, q'⟩ := hs
      obtain ⟨a1, a2, a3, a4⟩ := un J
      exact ⟨.non, H', a1, a2, a3, a4, rfl, q'⟩
    | ret u =>
      obtain ⟨v', σ', H', J, rr, q'⟩ := hs
      obtain ⟨a1, a2, a3, a4⟩ := un J
      exact ⟨v', H', a1, a2, a3, a4, rr, q'⟩
    | brk =>
      obtain ⟨_, _, _, q'⟩ := hs
      exact q'.elim
    | cont =>
      obtain ⟨_, _, _, q'⟩ := hs
      exact q'.elim
  have xx : X.xe = fun e s' => wpAny (model P w) (A.deeper (callEnv fd s.heap.objs.size fI)) (leaving (callEnv fd s.heap.objs.size fI) e) (fun _ s'' => CR CX0 out P w H s Q E (.error e) s'') (fun e' s'' => CR CX0 out P w H s Q E (.error e') s'') s' := by rw [← hX]; rfl
  refine ks_wpAt_mono (Q := SP X [] { nx := fun _ H' => Q .non H', rt := Q }) (E := X.xe) ?_ (fun fl s' hs => fin fl s' hs) (fun e s' hs => by rw [xx] at hs; exact hs)
  rw [← xA, ← xe, ← xP, ← xw]
  clear fin xx
  have hcc := e0.mod.kin _ _ h4
  obtain ⟨p0, p1, p2, p3, p4, p5, p6, p7, p8, p9, m, j, eb, ehe, esw⟩ := S.body
  obtain ⟨pl, he⟩ := ehe X.env
  have hsw := esw X.env
  obtain ⟨ar, har, ear⟩ := S.arg
  rw [eb]
  have hKX := I.kIn
  rw [xK] at hKX
  have hks : X.env.kindOf "super" = some .globalImplicit := by
    show X.env.scope.names.lookup _ = _
    rw [sc]
    exact SC.sup
  have hkc : X.env.kindOf "__class__" = some .free := by
    show X.env.scope.names.lookup _ = _
    rw [sc]
    exact SC.cls
  have hkse : X.env.kindOf "self" = some .local := by
    show X.env.scope.names.lookup _ = _
    rw [sc]
    exact SC.self
  have hlv : X.env.scope.kind = .function := I.ok.kind
  obtain ⟨mL, hnL, hlook⟩ := I.loc
  have hself : mL "self" = some (Value.ref a) := by
    obtain ⟨u, ru, q'⟩ := hlook 0 "self" (.ref a) (by rw [xN]; rfl) rfl (.inl hkse)
    obtain rfl : u = Value.ref a := ru
    rcases q' with ⟨_, e⟩ | ⟨hk', _⟩
    · exact e
    · rcases hk' with hk' | hk' <;> (rw [hkse] at hk'; cases hk')
  obtain ⟨t1, ho⟩ := exo_at I.hok ea
  obtain ⟨nm, qc, Nc, bs, bm, sn, sub, ab, col, dd, k0, k1, k2, k3, k5, hC, hbm⟩ := S.ox.cls
  have hCs := hKX _ _ hC
  have hfi := hKX _ _ h2
  have efn : X.env.func = some fI := by rw [xe, efd]; rfl
  have eco : X.env.code = .ref cda := by rw [xe, efd]; rfl
  refine ks_wpAt_execs_cons (ks_wpAt_Expr_any (ks_wpAt_MethodCall (pl := pl) ?_ he) I.quiet)
  refine ks_wpAt_super_base (of := ⟨oc, od, .func fd, osl⟩) (fd := fd) (ar := ar) hks hkc rfl efn hfi rfl (by rw [efd]; exact har) eco (hKX _ _ h5) rfl h6 (by rw [xP]; exact h7) (by rw [xP]; exact S.top) ?_
  refine PySem.W.ks_loadName_global hlv hks (Calls.loadGlobal_builtin (by rw [I.ok.glob]; exact I.mod.glob.keeps I.bk) (by rw [xm]; exact S.gS) (by rw [I.ok.blt]; exact I.mod.blt.choose_spec.1.keeps I.bk) ((I.mod.blt.choose_spec.2 _ (by decide)).trans (by decide +kernel)) ⟨rfl, ?_⟩)
  have hcl : X.env.cells.lookup ("__class__" : Str) = some cc := by rw [cl]; rfl
  refine wpAny_loadName_free hlv hkc hcl ⟨_, hKX _ _ h4, rfl⟩ ?_
  rw [ear]
  refine wpAny_loadName_local hlv hkse hnL hself ?_
  refine ks_wpAny_isType_cls hCs rfl ⟨rfl, ?_⟩
  refine ks_wpAny_call_super hCs rfl ho rfl (fun c z => by cases z) (PySem.W.looks_mroIn hKX S.sC) (fun h' e' k' => ?_)
  have hcd : PySem.W.clsIn K C = some { name := nm, bases := bs, mro := .ref C :: bm, ns := Nc, qualname := qc, hasDict := true, slotNames := sn, subclasses := sub, abstract := ab, collection := col, hasDel := false } := by
    unfold PySem.W.clsIn
    rw [hC] <;> rfl
  have hup := S.up
  unfold PySem.W.ks_superIn at hup
  rw [hcd] at hup
  have I1 : Inv X [] [some (.ref a), some v1] H { heap := h', gens := s.gens, drawn := s.drawn, toks := s.toks + 2, os := s.os } := I.kept (t' := s.toks + 2) k'
  have hK1 := I1.kIn
  rw [xK] at hK1
  have hI : PySem.W.Looks (model X.prog X.w) h' (isInstance (.ref a) (.type "ValueError")) true := (PySem.W.InstAt.type (od := none) ⟨k' _ _ ho, rfl, rfl, trivial⟩).andThen (PySem.W.looks_subIn hK1 S.sB)
  have aC : a ≠ C := fun z => by
    rw [z] at ho
    rw [ho] at hCs
    cases hCs
  refine PySem.W.kxs_getMethod PySem.W.kxs_ValueError e' (PySem.W.looks_opaque hK1 S.no) (l₀ := .ref C :: bm) (fun A Q E s k q => wpAny_bind ((PySem.W.looks_clsIn hK1 hcd) A _ E s k (wpAny_pure q))) rfl hK1 hup hI aC (by decide) ?_
  have I2 : Inv X [(h'.objs.size, PySem.W.kxs_mw "ValueError.__init__" a)] [some (.ref a), some v1] H { heap := h'.push (PySem.W.kxs_mw "ValueError.__init__" a), gens := s.gens, drawn := s.drawn, toks := s.toks + 2 + 1, os := s.os } := by
    refine (I1.kept (t' := s.toks + 2 + 1) (h' := h'.push (PySem.W.kxs_mw "ValueError.__init__" a)) fun b o z => Heap.get?_push_of_some _ z).pins_of fun p hp => ?_
    rw [List.mem_singleton.mp hp]
    exact ⟨Heap.get?_push_size _ rfl, I1.hok.fresh (Nat.le_refl _), Nat.ne_of_gt I1.lt, I1.nofs (Nat.le_refl _), fun v z => by cases z⟩
  refine PySem.W.kxs_callWith (i := "ValueError.__init__") (x := a) rfl (PySem.Calls.evalArgs_plain (thn ((pa_cons pe_str pa_nil : PA X [.Constant (.str m) j p3] _).run p4 _ _ _ H (fun vs H1 => vs = [V.str m] ∧ H1 = H) I2 ⟨rfl, rfl⟩) fun us s3 hh => ?_))
  obtain ⟨vs3, H3, I3, r3, rfl, rfl⟩ := hh
  obtain ⟨u3, rfl, _⟩ := vals1 r3
  have hpin := (I3.pin (h'.objs.size, PySem.W.kxs_mw "ValueError.__init__" a) (List.mem_append_right _ List.mem_cons_self)).1
  refine ⟨hpin, wrap_call (by rw [xK]; exact S.ox) I3 hpin ea fun s4 J => ?_⟩
  have J' : Inv X [] [some (.ref a), some v1] H3 s4 := J.pins_of fun p hp => nomatch hp
  refine wpAt_of_wpAny ((pss_one (ps_ost (X := X) (pe_var (i := 0) (by rw [xN]; rfl) (.inl hkse) (by decide) (by decide)) (pe_var (i := 1) (by rw [xN]; rfl) (.inl (by rw [sc]; exact SC.field)) SC.fd SC.fc) hsw)).run [] s4 _ H3 _ J' ?_)
  exact ⟨v1, rfl, .ref a, rfl, a, C, rfl, by rw [xK]; exact S.ox, by rw [xK]; exact S.nf, .inl ⟨ea, fun dx n ne => q dx n ne⟩⟩
end
end Bk
namespace Bk
open PySem PySem.Spec PyProof.Rows L2 Evl
/-! ### an error class of the program, and what is known of it -/
structure ErrK (K : PySem.W.Frag) (mg : Str → Option Value) (nm : Str) (C : Addr) : Prop where
  g : mg nm = some (.ref C)
  k : PySem.W.keepIn K (.ref C) = true
  t : PySem.W.typeIn K (.ref C) = some (.type "type")
  s : PySem.W.subIn K (.ref C) (.ref C) = some true
  v : PySem.W.subIn K (.ref C) (.type "ValueError") = some true
  ex : ExcC K C
theorem err_mk {K : PySem.W.Frag} {h : Heap} {mg : Str → Option Value} {nm : Str} {C : Addr} (X : K.In h) (G : h.Ns mainGlobals mg) (a : PySem.W.nsIn K mainGlobals nm = some (some (.ref C))) (k : PySem.W.keepIn K (.ref C) = true)
    (t : PySem.W.typeIn K (.ref C) = some (.type "type")) (s : PySem.W.subIn K (.ref C) (.ref C) = some true) (v : PySem.W.subIn K (.ref C) (.type "ValueError") = some true)
    (e1 : PySem.W.findIn K (.ref C) "__getattribute__" = some (some (.builtin "BaseException.__getattribute__"))) (e2 : PySem.W.findIn K (.ref C) "__getattr__" = some none) (e3 : PySem.W.subIn K (.ref C) (.type "BaseException") = some true) (e4 : PySem.W.hasDictIn K C = true)
    (e5 : PySem.W.findIn K (.ref C) "__class__" = some (some (.builtin "object.__class__"))) (e6 : PySem.W.specialIn K (.builtin "object.__class__") "__get__" = some (some (.builtin "getset_descriptor.__get__"))) (e7 : PySem.W.takesIn K (.builtin "object.__class__") = some true)
    (e8 : PySem.W.mroIn K C (.type "object") = some true) : ErrK K mg nm C :=
  ⟨PySem.W.mg_of X G a, k, t, s, v, ⟨e1, e2, e3, e4, e5, e6, e7, e8⟩⟩
section
variable {K : PySem.W.Frag} {mg : Str → Option Value} {nm nd : Str} {C D : Addr} {b : Bool}
theorem ErrK.cls (x : ErrK K mg nm C) : (PySem.W.clsIn K C).isSome = true := by
  obtain ⟨cd, hc, _⟩ := PySem.W.any_some x.ex.hd
  rw [hc]
  rfl
/-- an error of D where C is named by a clause -/
theorem ErrK.exm (x : ErrK K mg nm C) (h : PySem.W.subIn K (.ref D) (.ref C) = some b) : PySem.W.exmOne K (.ref D) (.ref C) = some b := PySem.W.exm_ref x.ex.hs x.ex.hd x.t h
theorem ErrK.kit (x : ErrK K mg nm C) (h : PySem.W.subIn K (.ref D) (.ref C) = some b) : PySem.W.kitOne K (.ref D) (.ref C) = some b := by
  unfold PySem.W.kitOne
  by_cases e : D = C
  · subst e
    rw [if_pos (by simp), ← h, x.s]
  · rw [if_neg (by simpa using e)]
    show (if ((PySem.W.clsIn K C).isSome && PySem.W.typeIn K (.ref C) == some (.type "type")) = true then PySem.W.subIn K (.ref D) (.ref C) else none) = some b
    rw [x.cls, x.t, h]
    rfl
theorem ErrK.kitV (x : ErrK K mg nm C) : PySem.W.kitOne K (.ref C) (.type "ValueError") = some true := by
  unfold PySem.W.kitOne
  rw [if_neg (by simp)]
  show (if PySem.W.kitMeta "ValueError" = true then _ else none) = some true
  rw [if_pos (by decide +kernel)]
  exact x.v
theorem ErrK.kitN (x : ErrK K mg nm C) : PySem.W.kitOne K (.type "NoneType") (.ref C) = some false := by
  unfold PySem.W.kitOne
  rw [if_neg (by simp)]
  show (if ((PySem.W.clsIn K C).isSome && PySem.W.typeIn K (.ref C) == some (.type "type")) = true then PySem.W.subIn K (.type "NoneType") (.ref C) else none) = some false
  rw [x.cls, x.t]
  have e : PySem.fastBuiltinMro "NoneType" = some [Value.type "NoneType", Value.type "object"] := by decide +kernel
  show (PySem.fastBuiltinMro "NoneType").map (·.contains (.ref C)) = some false
  rw [e]
  rfl
theorem kb_none_value : kitB "NoneType" "ValueError" = some false := by decide +kernel
end
/-! ### raise C(e), C with the __init__ of P19 -/
section
variable {X : Cx} {C fI : Addr} {fd : FuncData} {f x : Str} {st : Stmt} {e : Expr} {te : TE} {p pos : Pos}
theorem pmk_sup (S : SupC X.prog X.K X.mg C fI fd f st) (hb : Binds X.K fd ["self", f] []) (hr : Room 2 X.A) (hg : Gl X x) (hm : X.mg x = some (.ref C)) (ha : PA X [e] (tCons te tNil)) (hdb : (x == ("__debug__" : Str)) = false := by decide)
    (hst : starEach [e] X.env = (false, eval e X.env) :: starEach [] X.env := by rfl) : PMk X (.Call (.Name x p) [e] [] pos) (tMkO C (sp_sup C f) [] (tCons te tNil)) :=
  pmk_oex (CX := CX0) (k := 1) S.ox S.iC S.tI (sup_ok S) hr hb .nil (fun _ _ _ _ _ _ _ z => z.elim) hg hm ha hdb hst rfl
theorem mk_ev {σ : L2.St} {H : Hp} {v : V} {Q : XK} (h : Ev te σ H v) (q : ∀ H1 d, Ex H H1 → H1 d = none → Q (.ref C) (some d) (upd H1 d (.xd [(f, v)]))) : tMkO C (sp_sup C f) [] (tCons te tNil) σ H Q :=
  h H (Ex.refl H) _ fun H1 e1 => ⟨by show 1 ≤ 1000; decide, fun a ha => ⟨a, v, rfl, upd_same, fun dx hdx ne => ⟨rfl, dx, [(f, v)], upd_same, by rw [upd_ne ne, upd_same], by rw [upd_ne ne] at hdx; exact hdx, by
    have hd : H1 dx = none := by rw [upd_ne ne] at hdx; exact hdx
    have eq : upd (del (upd (upd (upd H1 a (exo a C none)) dx (exd dx [(f, v)])) a (exo a C (some dx))) a) dx (.xd [(f, v)]) = upd H1 dx (.xd [(f, v)]) := by
      funext b
      by_cases c : b = dx
      · rw [c, upd_same, upd_same]
      · rw [upd_ne c, upd_ne c]
        by_cases c2 : b = a
        · rw [c2, del_same, ha]
        · rw [del_ne c2, upd_ne c2, upd_ne c, upd_ne c2]
    rw [eq]
    exact q H1 dx e1 hd⟩⟩⟩
end
/-! ### an error that was caught and is kept -/
def ExK (cls : Value) (d : Option Addr) (a : Addr) : HO := .ext fun h => ∃ (oe : Obj) (vs : Array Value), h.get? a = some oe ∧ Zc cls d oe ∧ oe.data = .fields vs
theorem exk_ok {P : Program} {w : World} {H : Hp} {h : Heap} {a : Addr} {cls : Value} {d : Option Addr} {oe : Obj} {vs : Array Value} (e : h.get? a = some oe) (z : Zc cls d oe) (hd : oe.data = .fields vs) : ObjOk P w H h a (ExK cls d a) :=
  ⟨⟨oe, vs, e, z, hd⟩, ⟨oe, e⟩, fun _ _ ⟨o, v, q, r⟩ k => ⟨o, v, k o q, r⟩⟩
theorem exk_at {P : Program} {w : World} {H : Hp} {h : Heap} {a : Addr} {cls : Value} {d : Option Addr} (hok : HOk P w H h) (e : H a = some (ExK cls d a)) : ∃ (oe : Obj) (vs : Array Value), h.get? a = some oe ∧ Zc cls d oe ∧ oe.data = .fields vs := by
  have x : ObjOk P w H h a (.ext fun h => ∃ (oe : Obj) (vs : Array Value), h.get? a = some oe ∧ Zc cls d oe ∧ oe.data = .fields vs) := hok a _ e
  exact x.1
section
variable {X : Cx} {pins : List (Addr × Obj)} {σ : L2.St} {H : Hp} {s : Shared}
/-- an object that nobody tracks is taken up -/
theorem adopt {a : Addr} {oe : Obj} {vs : Array Value} {cls : Value} {d : Option Addr} (I : Inv X pins σ H s) (ha : s.heap.get? a = some oe) (z : Zc cls d oe) (hd : oe.data = .fields vs) (na : H a = none) (n0 : X.s_0.heap.get? a = none) (nL : a ≠ X.env.locals)
    (nP : ∀ p ∈ X.pn ++ pins, p.1 ≠ a) : Inv X pins σ (upd H a (ExK cls d a)) s := by
  have ne : ∀ {b : Addr} {o : HO}, H b = some o → b ≠ a := fun q => ne_of_none q na
  refine ⟨I.ok, I.os, I.bare, ⟨I.base.keep, I.base.slot, fun b o q n x => ?_, I.base.there, fun b xs q => ?_, fun b o u q => ?_, fun b ps q => ?_⟩, I.loc, I.cell, ?_, fun x c h => ?_, fun p hp => ?_, fun b o q => ?_, I.len⟩
  · rw [upd_ne fun z => by rw [z, n0] at q; cases q]
    exact I.base.free b o q n x
  · have r := I.base.tups b xs q
    rw [upd_ne (ne r)]
    exact r
  · have r := I.base.frzs b o u q
    rw [upd_ne (ne r)]
    exact r
  · obtain ⟨more, r⟩ := I.base.tbls b ps q
    exact ⟨more, by rw [upd_ne (ne r)]; exact r⟩
  · rw [upd_ne nL.symm]
    exact I.free
  · obtain ⟨v, o, ho, hv⟩ := I.cell x c h
    rw [upd_ne fun z => by
      rw [z, ha] at ho
      cases ho
      rw [hd] at hv
      cases hv]
    exact I.freeC x c h
  · obtain ⟨p1, p2, p3⟩ := I.pin p hp
    exact ⟨p1, by rw [upd_ne (nP p hp)]; exact p2, p3⟩
  · by_cases c : b = a
    · subst c
      rw [upd_same] at q
      cases q
      exact exk_ok ha z hd
    · rw [upd_ne c] at q
      exact (I.hok b o q).stay (fun _ _ _ r => r) (fun e r => by rw [upd_ne (ne r)]; exact r) fun e xs r => by rw [upd_ne (ne r)]; exact r
theorem suite0 (I : Inv X pins σ H s) (a : Addr) : Inv (X.suite a (X.pn ++ pins)) [] σ H s :=
  ⟨I.ok.suite _ _, I.os, I.bare, I.base, I.loc, I.cell, I.free, I.freeC, fun p hp => I.pin p (by rw [List.append_nil] at hp; exact hp), I.hok, I.len⟩
theorem unsuite0 {a : Addr} {pn' : List (Addr × Obj)} (I : Inv (X.suite a (X.pn ++ pins)) pn' σ H s) (ok : X.Ok) : Inv X pins σ H s :=
  ⟨ok, I.os, I.bare, I.base, I.loc, I.cell, I.free, I.freeC, fun p hp => I.pin p (List.mem_append_left _ hp), I.hok, I.len⟩
end
/-- what 'except x as n: suite' wishes where the error is kept -/
def wKept (K : PySem.W.Frag) (c : Value) (i : Nat) (ts : TS) (Wout : WX) (D : Ends) : WX := fun cls d σ H =>
  ∃ b, PySem.W.exmOne K cls c = some b ∧ (b = true → ∀ a, H a = none → ts { nx := fun σ' H' => D.nx (σ'.set i none) H', rt := D.rt, bk := fun σ' H' => D.bk (σ'.set i none) H', ct := fun σ' H' => D.ct (σ'.set i none) H' } (σ.set i (some (.ref a))) (upd H a (ExK cls d a))) ∧
    (b = false → Wout cls d σ H)
section
variable {X : Cx} {x n : Str} {c : Value} {i : Nat} {body suite : List Stmt} {first : Stmt} {np pos pos' : Pos} {tb : WX → TS} {ts : TS} {Wout : WX}
theorem ps_try_kept (hs : X.stack = X.env :: X.outer) (hf : X.env.frame = some X.env.locals) (hex : X.ex = []) (hN : X.N.Nodup) (hi : X.N[i]? = some n) (hln : X.env.kindOf n = some .local) (hc : Names X x c) (tk : Takes X Wout)
    (hb : ∀ (W : WX) (pn : List (Addr × Obj)) (xe : Value → Shared → Prop), Takes (X.tr pn xe) W → PassesOwn (model X.prog X.w) X.A X.env xe → PSs (X.tr pn xe) body (tb W))
    (hsu : ∀ (a : Addr) (pn : List (Addr × Obj)), PSs (X.suite a pn) (first :: suite) ts) :
    PS X (.Try body [.ExceptHandler (some (.Name x np)) (some n) (first :: suite) pos'] [] [] pos) (fun D σ H => tb (wKept X.K c i ts Wout D) D σ H) := by
  refine ⟨fun pins s σ H D I h => ?_⟩
  have ok0 := I.ok
  have frm : X.A.frames = some (X.env :: X.outer) := by rw [ok0.frames, hs]
  have isLoc : Loc X.env.scope n := .inl hln
  refine wpAny_Try_except ?_
  have run := (hb (wKept X.K c i ts Wout D) (X.pn ++ pins) (fun ev t1 => wpAny (model X.prog X.w) X.A (noteFrame ev X.env) (fun _ t2 => wpAny (model X.prog X.w) X.A (setFlight ev none) (fun _ t3 =>
    wpAny (model X.prog X.w) X.A (handleBy ev X.env [.ExceptHandler (some (.Name x np)) (some n) (first :: suite) pos']) (SP X pins D) X.xe t3) X.xe t2) X.xe t1) (fun u t' air => ?_) PassesOwn.looking).run [] s σ H D (I.toTry _) h
  · refine wpAny_mono run (fun fl t1 hfl => ?_) (fun _ _ he => he)
    cases fl with
    | next =>
      obtain ⟨σ', H', J, q⟩ := hfl
      exact wpAny_execs_nil ⟨σ', H', J.ofTry ok0, q⟩
    | brk =>
      obtain ⟨σ', H', J, q⟩ := hfl
      exact ⟨σ', H', J.ofTry ok0, q⟩
    | cont =>
      obtain ⟨σ', H', J, q⟩ := hfl
      exact ⟨σ', H', J.ofTry ok0, q⟩
    | ret u =>
      obtain ⟨v, σ', H', J, r, q⟩ := hfl
      exact ⟨v, σ', H', J.ofTry ok0, r, q⟩
  · obtain ⟨a, B, sJ, pins', σ', H', cls, d, rfl, Jt, nb, up, sky, na, eos, bare, b, hb1, hyes, hno⟩ := air
    have J : Inv X pins σ' H' sJ := Jt.ofTry ok0
    have skyE : Sky B (X.env :: X.outer) a (Zc cls d) X.env.locals t'.heap := by rw [← hs]; exact sky
    show wpAny (model X.prog X.w) X.A (noteFrame (.ref a) X.env) _ _ _
    refine Sky.land Zc.steady frm hf skyE fun g3 f3 u3 => ?_
    have J3 : Inv X pins σ' H' { t' with heap := g3 } := J.landed nb f3.1 (up.trans u3) eos bare
    obtain ⟨o3, v3, ho3, hz3, hd3⟩ := f3.there
    have notIn : ∀ {hh : Heap} {o : Obj} {vs : Array Value}, hh.FunFrames B (X.env :: X.outer) → hh.get? a = some o → o.data = .fields vs → a ∉ frs (X.env :: X.outer) := fun {hh o vs} ff e dd hm => by
      obtain ⟨_, o', e', nf⟩ := ff.mem hm
      rw [e] at e'
      cases e'
      exact nf _ dd
    have nfr := notIn f3.2.2.1 ho3 hd3
    have nL : a ≠ X.env.locals := fun z => nfr (List.mem_filterMap.mpr ⟨X.env, List.mem_cons_self, by rw [hf, z]⟩)
    have nJ : sJ.heap.get? a = none := by
      cases q : sJ.heap.get? a with
      | none => rfl
      | some o =>
        have r := nb a o q (by rw [show frs (X.tr (X.pn ++ pins) _).stack = frs (X.env :: X.outer) by rw [← hs]]; exact nfr)
        rw [f3.2.1] at r
        cases r
    have n0 : X.s_0.heap.get? a = none := by
      cases q : X.s_0.heap.get? a with
      | none => rfl
      | some o =>
        obtain ⟨o', r⟩ := J.base.there a o q (by rw [hex]; exact List.not_mem_nil)
        rw [nJ] at r
        cases r
    have nP : ∀ p ∈ X.pn ++ pins, p.1 ≠ a := fun p hp z => by
      have r := (J.pin p hp).1
      rw [z, nJ] at r
      cases r
    refine wpAny_handleBy_cons (codeAny_handlers_test ?_) (by intro q; cases q)
    have lt : PySem.W.Looks (model X.prog X.w) g3 (typeOf (.ref a)) cls := fun A Q E s k q => wpAny_typeOf_ref (k _ _ ho3) (by rw [hz3.1]; exact q)
    have lm := PySem.W.exm_one (M := model X.prog X.w) (J3.kIn) lt hb1
    have S3 := suite0 J3 a
    have asks : ∀ {Q : Value → Shared → Prop} {E : Value → Shared → Prop}, Q c { t' with heap := g3 } → wpAny (model X.prog X.w) (X.A.mark (some (.ref a))) (eval (.Name x np) X.env) Q E { t' with heap := g3 } := fun {Q E} q => by
      obtain ⟨hg, hdbg, hm | ⟨hm, hv, hnn⟩⟩ := hc
      · exact ld_glob (X := X.suite a (X.pn ++ pins)) S3 hg hm q hdbg
      · exact ld_blt (X := X.suite a (X.pn ++ pins)) S3 hg hm hv q hnn hdbg
    refine asks (lm.here ?_)
    cases b with
    | true =>
      refine codeAny_handlers_suite_as ?_
      refine HandSPX.lands_againZ f3 fun g4 f4 u4 => ?_
      have J4 : Inv X pins σ' H' { t' with heap := g4 } := J.landed nb f4.1 ((up.trans u3).trans u4) eos bare
      obtain ⟨o4, v4, ho4, hz4, hd4⟩ := f4.there
      have S4 := suite0 (adopt J4 ho4 hz4 hd4 na n0 nL nP) a
      refine store_ok (X := X.suite a (X.pn ++ pins)) (v := .ref a) S4 hN hi isLoc rfl (fun s5 S5 => ?_) (.inr hln)
      refine wpAny_mono ((hsu a (X.pn ++ pins)).run [] s5 _ _ _ S5 (hyes rfl a na)) (fun fl s6 hfl => ?_) (fun _ _ z => False.elim z)
      have away : ∀ {σ6 : L2.St} {H6 : Hp} {Q : Shared → Prop}, Inv (X.suite a (X.pn ++ pins)) [] σ6 H6 s6 → (∀ s7, Inv X pins (σ6.set i none) H6 s7 → Q s7) →
          wpAny (model X.prog X.w) X.A (do bindName X.env n .none; unbindBehindTheSuite X.env n pos') (fun _ s7 => Q s7) X.xe s6 := fun {σ6 H6 Q} S6 hq => gone_ok (unsuite0 S6 ok0) hN hi hln hq
      cases fl with
      | next =>
        obtain ⟨σ6, H6, S6, q6⟩ := hfl
        exact away S6 fun s7 J7 => ⟨_, _, J7, q6⟩
      | brk =>
        obtain ⟨σ6, H6, S6, q6⟩ := hfl
        exact away S6 fun s7 J7 => ⟨_, _, J7, q6⟩
      | cont =>
        obtain ⟨σ6, H6, S6, q6⟩ := hfl
        exact away S6 fun s7 J7 => ⟨_, _, J7, q6⟩
      | ret u =>
        obtain ⟨v6, σ6, H6, S6, r6, q6⟩ := hfl
        exact away S6 fun s7 J7 => ⟨_, _, _, J7, r6, q6⟩
    | false =>
      show wpAny _ X.A (handleBy (.ref a) X.env []) _ _ _
      refine wpAny_handleBy_nil ?_
      obtain ⟨y1, y2, y3, oe, vs, T, oT, ts', he, hz, hd, h1, hr⟩ := id f3
      unfold PySem.passOn
      refine wpAny_bind (wpAny_field he hd h1 ?_)
      rw [if_neg (show ¬ ((Value.ref T == Value.none) = true) from by simp)]
      have onward : wpAny (model X.prog X.w) X.A (setFlight (.ref a) X.env.frame) (fun _ s4 => wpAny (model X.prog X.w) X.A (throw (.ref a) : Sem Flow) (SP X pins D) X.xe s4) X.xe { t' with heap := g3 } := by
        rw [hf]
        refine HandSPX.setFlight_upZ f3 fun g4 hh4 u4 => wpAny_throw (tk _ _ ?_)
        exact ⟨a, B, sJ, pins, σ', H', cls, d, rfl, J, nb, (up.trans u3).trans u4, .inr (.inr (by rw [hs]; exact hh4)), na, eos, bare, hno rfl⟩
      first
        | exact wpAny_bind (wpAny_pure (wpAny_bind onward))
        | exact wpAny_bind onward
end
end Bk
namespace Bk
open PySem PySem.Spec PyProof.Rows L2 Evl
section
variable {X : Cx} {pins : List (Addr × Obj)} {σ : L2.St} {H : Hp} {s : Shared}
/-- where the dict of a kept error stands, if there is one -/
def Dct (H : Hp) (d : Option Addr) : Prop := ∀ dd, d = some dd → ∃ fs, H dd = some (.xd fs)
/-- isinstance(x, c) of a kept error -/
def rIsK (K : PySem.W.Frag) : List V → Hp → VK → Prop := fun xs H Q => ∃ (a D : Addr) (d : Option Addr) (c : V) (cv : Value) (b : Bool), xs = [.ref a, c] ∧ ClsV c cv ∧ H a = some (ExK (.ref D) d a) ∧ Dct H d ∧ ExcC K D ∧ PySem.W.kitOne K (.ref D) cv = some b ∧ Q (.bl b) H
theorem call_isK {X : Cx} : CallR X (.builtin "isinstance") (rIsK X.K) := by
  intro pins s σ H xs us Q I r h
  obtain ⟨a, D, d, c, cv, b, rfl, hcv, ha, hd, ex, e, q⟩ := h
  cases r with
  | cons rx rr =>
    cases rr with
    | cons rt rr =>
      cases rr
      cases rx
      have ec := hcv.eq rt
      subst ec
      obtain ⟨oe, vs, hget, hz, hv⟩ := exk_at I.hok ha
      have hcl : (PySem.W.clsIn X.K D).isSome = true := by
        obtain ⟨cd, hc, _⟩ := PySem.W.any_some ex.hd
        rw [hc]
        rfl
      obtain ⟨od, J⟩ : ∃ od, PySem.W.InstAt s.heap a oe D od := by
        obtain ⟨oc, od, oda, osl⟩ := oe
        obtain ⟨h1, h2⟩ := hz
        dsimp only at h1 h2 hv
        subst h1 h2 hv
        cases od with
        | none => exact ⟨none, hget, rfl, rfl, trivial⟩
        | some dd =>
          obtain ⟨fs, hx⟩ := hd dd rfl
          have hx' : ObjOk X.prog X.w H s.heap dd (.xd fs) := I.hok dd _ hx
          obtain ⟨mA, hns, hr⟩ := hx'
          obtain ⟨od, ho, hl⟩ := lookIn_ns hns
          exact ⟨some od, hget, rfl, rfl, ho⟩
      exact PySem.W.kia_one (PySem.W.kitx_exc hcl ex.hg ex.hk ex.hs ex.ha ex.hn ex.ht ex.hm) I.kIn J e (fun z => nomatch z) fun tk => ⟨.bl b, H, I.kept (t' := tk) fun _ _ z => z, rfl, q⟩
/-- .. of anything -/
def rIsiX (K : PySem.W.Frag) : List V → Hp → VK → Prop := fun xs H Q => rIsi K xs H Q ∨ rIsK K xs H Q
theorem call_isX {X : Cx} {K : PySem.W.Frag} (h : X.K = K) : CallR X (.builtin "isinstance") (rIsiX K) := by
  subst h
  exact call_isi.or call_isK
/-- e.f, e a kept error -/
def tXk (K : PySem.W.Frag) (f : Str) (te : TE) : TE := fun σ H Q => te σ H fun x H1 => ∃ (a C dd : Addr) (fs : List (Str × V)) (v : V), x = .ref a ∧ H1 a = some (ExK (.ref C) (some dd) a) ∧ H1 dd = some (.xd fs) ∧ XfC K C ∧ PySem.W.findIn K (.ref C) f = some none ∧ fs.lookup f = some v ∧ Q v H1
theorem pe_xk {X : Cx} {K : PySem.W.Frag} {e : Expr} {te : TE} {pos : Pos} {n : Str} (hK : X.K = K) (he : PE X e te) (hb : attributeBase e n X.env (eval e X.env) = eval e X.env := by rfl) : PE X (.Attribute e n pos) (tXk K n te) := by
  subst hK
  refine ⟨fun pins s σ H Q I h => ?_⟩
  refine attr_of hb (thn (he.run pins s σ H _ I h) fun u s1 hh => ?_)
  obtain ⟨x, H1, I1, rx, a, C, dd, fs, v, rfl, ha, hx, T, hno, l, q⟩ := hh
  obtain rfl : u = Value.ref a := rx
  obtain ⟨oe, vs, hget, hz, hd⟩ := exk_at I1.hok ha
  have hx' : ObjOk X.prog X.w H1 s1.heap dd (.xd fs) := I1.hok dd _ hx
  obtain ⟨mA, hns, hr⟩ := hx'
  obtain ⟨od, ho, hl⟩ := lookIn_ns hns
  obtain ⟨u, hu, ru⟩ := RelO.some_of (v := v) (o := mA n) (by rw [← l]; exact hr n)
  have J : PySem.W.InstAt s1.heap a oe C (some od) := ⟨hget, hz.1, by unfold PySem.W.notCls; rw [hd] <;> rfl, by rw [hz.2]; exact ho⟩
  exact HandSPX.exc_get I1.kIn J T.ga T.gg T.exC (PySem.W.findObj_own T.hdC hno rfl (by rw [hl, hu])) (handed_of ru) ⟨v, H1, I1.tok _, ru, q⟩
end
section
variable {X : Cx} {CX : CXT} {k : Nat} {f : Addr} {fd : FuncData} {ps : List Str} {sp : Sp} {E : L2.St → XK} {x : Str} {p pos : Pos} {e : Expr} {es : List Expr} {t : TA} {kws : List Keyword} {tk : TA} {ks : List Str}
/-- f(e, ..) in a try -/
theorem runGS {pins : List (Addr × Obj)} {σ : L2.St} {H : Hp} {s : Shared} {Q : VK} {us : List Value} {vs : List V} (F : FnG X.prog X.w X.K X.mg X.base CX k f fd ps sp) (hr : Rm k X.A) (hb : Binds X.K fd ps []) (hx : PassesAt CX X σ (E σ))
    (I : Inv X pins σ H s) (r : Vals vs us) (h : sp vs H Q (E σ)) : wpAny (model X.prog X.w) X.A (call (.ref f) us) (EP X pins σ Q) X.xe s := by
  have hl : us.length = ps.length := by rw [← r.length]; exact F.len _ _ _ _ h
  have b := hb s us I.kIn (by rw [List.append_nil]; exact hl)
  rw [List.append_nil] at b
  refine wpAny_call (codeAny_mono (F.run X.A X.stack s H ⟨us, []⟩ us vs Q (E σ) hr I.env0 b r h) fun r s' hq => ?_)
  cases r with
  | error e => exact hx pins H s e s' I hq
  | ok fl =>
    cases fl with
    | ret u => exact I.after hq
    | next => exact hq.elim
    | brk => exact hq.elim
    | cont => exact hq.elim
theorem callGS (F : FnG X.prog X.w X.K X.mg X.base CX k f fd ps sp) (hr : Rm k X.A) (hg : Gl X x) (hm : X.mg x = some (.ref f)) (hk : PySem.W.keepIn X.K (.ref f) = true) (hb : Binds X.K fd ps []) (hx : ∀ σ, PassesAt CX X σ (E σ))
    (ha : PA X (e :: es) t) (hdb : (x == ("__debug__" : Str)) = false := by decide) (he : starEach (e :: es) X.env = (false, eval e X.env) :: starEach es X.env := by rfl) (hpl : (backTo pos (starEach es X.env)).any (·.1) = false := by rfl) :
    PE X (.Call (.Name x p) (e :: es) [] pos) (tCallS sp E t) := by
  refine ⟨fun pins s σ H Q I h => ?_⟩
  refine wpAny_Call_Name_kw (ld_glob I hg hm ?_ hdb)
  refine PySem.W.callWith_K (h₀ := X.base) I.ok.mod.kin hk (thn (ha.run pos pins s σ H _ I h) fun us s1 ⟨vs, H1, I1, r, q⟩ => ⟨I1.kIn, ?_⟩) he hpl
  exact runGS F hr hb (hx σ) I1 r q
end
/-! ### readings -/
theorem dct_none {H : Hp} : Dct H none := fun _ h => nomatch h
theorem dct_some {H : Hp} {dd : Addr} {fs : List (Str × V)} (h : H dd = some (.xd fs)) : Dct H (some dd) := fun b e => by
  cases e
  exact ⟨fs, h⟩
theorem Dct.ex {H H' : Hp} {d : Option Addr} (h : Dct H d) (e : Ex H H') : Dct H' d := fun dd z => by
  obtain ⟨fs, q⟩ := h dd z
  exact ⟨fs, e _ _ q⟩
theorem xfc_of {K : PySem.W.Frag} {C : Addr} (x : ExcC K C) : XfC K C := ⟨x.hg, x.hk, x.hs, x.hd⟩
section
variable {K : PySem.W.Frag} {σ : L2.St} {H : Hp} {ta tc te : TE} {a D : Addr} {d : Option Addr} {c : V} {cv : Value} {b : Bool}
theorem ev_isK (h : Ev ta σ H (.ref a)) (hc : ∀ H1, Ev tc σ H1 c) (cl : ClsV c cv) (ha : H a = some (ExK (.ref D) d a)) (hd : Dct H d) (ex : ExcC K D) (k : PySem.W.kitOne K (.ref D) cv = some b) : Ev (tCB (rIsiX K) (tCons ta (tCons tc tNil))) σ H (.bl b) := fun H1 e Q q =>
  h H1 e _ fun H2 e2 => hc H2 H2 (Ex.refl H2) _ fun H3 e3 => .inr ⟨a, D, d, c, cv, b, rfl, cl, ((e.trans e2).trans e3) _ _ ha, hd.ex ((e.trans e2).trans e3), ex, k, q H3 (e2.trans e3)⟩
theorem ev_isX {x : V} {t : Value} (h : Ev ta σ H x) (hc : ∀ H1, Ev tc σ H1 c) (cl : ClsV c cv) (ty : ∀ H1, Ex H H1 → TyX K H1 x t) (k : PySem.W.kitOne K t cv = some b) : Ev (tCB (rIsiX K) (tCons ta (tCons tc tNil))) σ H (.bl b) := fun H1 e Q q =>
  h H1 e _ fun H2 e2 => hc H2 H2 (Ex.refl H2) _ fun H3 e3 => .inl ⟨x, c, t, cv, b, rfl, cl, ty H3 ((e.trans e2).trans e3), k, q H3 (e2.trans e3)⟩
theorem ev_xk {f : Str} {C dd : Addr} {fs : List (Str × V)} {v : V} (h : Ev te σ H (.ref a)) (ha : H a = some (ExK (.ref C) (some dd) a)) (hd : H dd = some (.xd fs)) (x : ExcC K C) (hno : PySem.W.findIn K (.ref C) f = some none) (l : fs.lookup f = some v) : Ev (tXk K f te) σ H v := fun H1 e Q q =>
  h H1 e _ fun H2 e2 => ⟨a, C, dd, fs, v, rfl, (e.trans e2) _ _ ha, (e.trans e2) _ _ hd, xfc_of x, hno, l, q H2 e2⟩
end
end Bk
namespace Bk
open PySem PySem.Spec PyProof.Rows L2 Evl
theorem bt_ValueError : bootBuiltins "ValueError" = some (.type "ValueError") := by decide +kernel
theorem sup_mk {P : Program} {K : PySem.W.Frag} {h : Heap} {mg : Str → Option Value} {f : Str} {st : Stmt} {C fI : Addr} (X : K.In h) (G : h.Ns mainGlobals mg)
    {nm q : Str} {N : Addr} {bs bm : List Value} {sn : List Str} {sub : List Value} {ab : Bool} {col : Option Bool} {dd : Option Addr} {k0 k1 k2 k3 k5 : Option Value}
    (lk : K.lookup C = some (excClassObj nm q C N bs bm true sn sub ab col dd k0 k1 k2 k3 k5 "ValueError.__new__")) (rv : PySem.HandSPX.refsVE bm = true)
    (sa : PySem.W.findIn K (.ref C) "__setattr__" = some (some (.builtin "object.__setattr__"))) (exC : PySem.W.subIn K (.ref C) (.type "BaseException") = some true) (tyC : PySem.W.typeIn K (.ref C) = some (.type "type")) (kC : PySem.W.keepIn K (.ref C) = true)
    (iC : PySem.W.findIn K (.ref C) "__init__" = some (some (.ref fI))) (tI : PySem.W.typeIn K (.ref fI) = some (.type "function")) (nf : PySem.W.findIn K (.ref C) f = some none)
    (up : PySem.W.ks_superIn K C C "__init__" = some (some (.builtin "ValueError.__init__"))) (sB : PySem.W.subIn K (.ref C) (.type "ValueError") = some true) (sC : PySem.W.mroIn K C (.ref C) = some true)
    (no : PySem.W.nsIn K cStatics "thirdparty.any" = some none) (gS : PySem.W.nsIn K mainGlobals "super" = some none)
    {qual : Str} {oc kV doc pm ct : Value} {od an : Option Addr} {cda cc : Addr} {osl csl ccs : Array (Option Value)} {cl ccl : Value} {cld cdd : Option Addr} {vs : Array Value} {file : Str} {tf : Tok}
    (lI : K.lookup fI = some ⟨oc, od, .func (PySem.W.fnX "__init__" qual (defArgs st) (defBody st) (defScope st) [("__class__", cc)] .none kV doc pm an (.ref cda) ct), osl⟩)
    (cI : PySem.W.codeIn K (.ref cda) qual = true) (lC : K.lookup cc = some ⟨cl, cld, .cell (some (.ref C)), csl⟩) (lD : K.lookup cda = some ⟨ccl, cdd, .fields vs, ccs⟩) (hv : vs[2]? = some (.str file tf)) (hf : ((P.main.file : Str) == file) = true)
    (top : (P.main.scope.names.lookup ("super" : Str)).isSome = false) (arg : ∃ ar, ((defArgs st).posonlyargs ++ (defArgs st).args).head? = some ar ∧ ar.arg = "self")
    (body : ∃ p0 p1 p2 p3 p4 p5 p6 p7 p8 p9 m j, defBody st = [.Expr (.Call (.Attribute (.Call (.Name "super" p0) [] [] p1) "__init__" p2) [.Constant (.str m) j p3] [] p4) p5, .Assign [.Attribute (.Name "self" p6) f p7] (.Name f p8) p9] ∧
      (∀ env, ∃ pl : Sem Bool, eval (.Call (.Attribute (.Call (.Name "super" p0) [] [] p1) "__init__" p2) [.Constant (.str m) j p3] [] p4) env = (do
        let ov ← attributeBase (.Call (.Name "super" p0) [] [] p1) "__init__" env (eval (.Call (.Name "super" p0) [] [] p1) env)
        standAt p2.atName
        let (g, first) ← holding [ov] (getMethod ov "__init__" pl)
        callWith p4 g first (backTo p4 (starEach [.Constant (.str m) j p3] env)) [])) ∧
      ∀ env, swapsWith (.Name f p8) (some (.Attribute (.Name "self" p6) f p7)) p9.line env = pure false)
    (sc : SupS f (defScope st)) :
    SupC P K mg C fI (PySem.W.fnX "__init__" qual (defArgs st) (defBody st) (defScope st) [("__class__", cc)] .none kV doc pm an (.ref cda) ct) f st :=
  { ox := ⟨⟨nm, q, N, bs, bm, sn, sub, ab, col, dd, k0, k1, k2, k3, k5, lk, rv⟩, sa, exC, tyC, kC⟩
    iC := iC
    tI := tI
    nf := nf
    up := up
    sB := sB
    sC := sC
    no := no
    gS := PySem.W.mg_none_of X G gS
    fn := ⟨qual, oc, od, kV, doc, pm, an, cda, ct, cc, osl, cl, cld, csl, ccl, cdd, ccs, vs, file, tf, rfl, lI, cI, lC, lD, hv, hf⟩
    top := top
    arg := arg
    body := body
    sc := sc }
/-! ### values of which something is known, with the heap; repr of any data -/
def EvP (te : TE) (σ : L2.St) (H : Hp) (P : V → Hp → Prop) : Prop := ∀ H1, Ex H H1 → ∀ Q : VK, (∀ v H2, Ex H1 H2 → P v H2 → Q v H2) → te σ H1 Q
def SpP (sp : Sp) (vs : List V) (H : Hp) (P : V → Hp → Prop) : Prop := ∀ H1, Ex H H1 → ∀ Q : VK, (∀ v H2, Ex H1 H2 → P v H2 → Q v H2) → ∀ E : XK, sp vs H1 Q E
def RetP (P : V → Hp → Prop) (H : Hp) (Q : VK) : Prop := ∀ v H2, Ex H H2 → P v H2 → Q v H2
mutual
theorem Dp.ex {K : PySem.W.Frag} {H H' : Hp} (e : Ex H H') : ∀ (d : PyData) (v : V), Dp K H v d → Dp K H' v d
  | .none, _, h => by cases h; exact .non
  | .bool _, _, h => by cases h; exact .bl _
  | .int _, _, h => by cases h; exact .int _
  | .str _, _, h => by cases h; exact .str _
  | .list ds, _, h => by
    cases h with
    | lst h1 h2 => exact .lst (ex_l e h1) (DpAll.ex e ds _ h2)
  | .tuple ds, _, h => by
    cases h with
    | tup h1 h2 => exact .tup (ex_t e h1) (DpAll.ex e ds _ h2)
  | .dict _, _, h => by cases h
theorem DpAll.ex {K : PySem.W.Frag} {H H' : Hp} (e : Ex H H') : ∀ (ds : List PyData) (vs : List V), DpAll K H vs ds → DpAll K H' vs ds
  | [], _, h => by cases h; exact .nil
  | d :: ds, _, h => by
    cases h with
    | cons h1 h2 => exact .cons (Dp.ex e d _ h1) (DpAll.ex e ds _ h2)
end
/-- what repr asks of data -/
def Sho (d : PyData) : Prop := d.showable = true ∧ d.hasDict = false ∧ d.depth ≤ 60 ∧ d.shown.length ≤ sizeLine
def rReprX (K : PySem.W.Frag) : List V → Hp → VK → Prop := fun xs H Q => ∃ (x : V) (d : PyData), xs = [x] ∧ Dp K H x d ∧ Sho d ∧ (∀ y, d ≠ .str y) ∧ Q (.str d.shown) H
theorem call_reprX {X : Cx} {K : PySem.W.Frag} (hK : X.K = K) (hg : X.A.guards = some []) (hu : X.A.units + 64 < cLine) : CallR X (.builtin "repr") (rReprX K) := by
  subst hK
  intro pins s σ H xs us Q I r h
  obtain ⟨x, d, rfl, hd, ⟨hs, hn, hp, hz⟩, no, q⟩ := h
  obtain ⟨u, rfl, ru⟩ := vals1 r
  obtain ⟨as, rd⟩ := Dp.reads I d x u hd ru
  have go : ∀ a, u = Value.ref a → wpAny (model X.prog X.w) X.A (call (.builtin "repr") [u]) (EP X pins σ Q) X.xe s := fun a e => by
    subst e
    refine repr_of_reads' rd hs (fun z => by rw [hn] at z; cases z) hg (by omega) (fun _ _ e => e) (fun h' u tk hk => ?_) hz
    exact ⟨.str d.shown, H, I.kept hk, ⟨u, rfl⟩, q⟩
  cases hd with
  | non =>
    cases (show u = Value.none from ru)
    exact PySem.P.repr_of_none ⟨.str "None", H, I.tok _, ⟨_, rfl⟩, q⟩
  | bl b =>
    cases (show u = Value.bool b from ru)
    cases b
    · exact PySem.P.repr_of_bool ⟨.str "False", H, I.tok _, ⟨_, rfl⟩, q⟩
    · exact PySem.P.repr_of_bool ⟨.str "True", H, I.tok _, ⟨_, rfl⟩, q⟩
  | int i =>
    obtain ⟨t, rfl⟩ := ru
    exact PySem.P.repr_of_int (by simpa [PyData.showable] using hs) ⟨.str _, H, I.tok _, ⟨_, rfl⟩, q⟩
  | str y => exact (no y rfl).elim
  | lst _ _ => exact go _ ru
  | tup _ _ => exact go _ ru
/-- evaluates to data -/
def EvD (K : PySem.W.Frag) (te : TE) (σ : L2.St) (H : Hp) (d : PyData) : Prop := EvP te σ H fun v H1 => Dp K H1 v d
def barD : Option (Nat × Str) → PyData
  | none => .none
  | some (n, s) => .tuple [.int (n : Int), .str s]
section
variable {K : PySem.W.Frag} {σ : L2.St} {H : Hp} {ta tb te : TE} {t : TA} {tt : TT} {sp : Sp} {E : XK} {vs xs : List V} {b : Option (Nat × Str)} {D : Ends} {tz : TS} {i : Nat} {P : V → Hp → Prop} {d : PyData}
theorem ep_call (h : EvA t σ H vs) (hs : SpP sp (vs ++ []) H P) : EvP (tCall sp [] E t) σ H P := fun H1 e Q q =>
  h H1 e _ fun H2 e2 => hs H2 (e.trans e2) Q (fun v H3 e3 h3 => q v H3 (e2.trans e3) h3) E
theorem q_asgP (h : EvP te σ H P) (k : ∀ v H1, Ex H H1 → P v H1 → tz D (σ.set i (some v)) H1) : tSeq (tAsg te (gName i)) tz D σ H :=
  h H (Ex.refl H) _ fun v H1 e1 h1 => k v H1 e1 h1
theorem EvP.mono {P' : V → Hp → Prop} (h : EvP te σ H P) (k : ∀ v H1, P v H1 → P' v H1) : EvP te σ H P' := fun H1 e Q q => h H1 e Q fun v H2 e2 p => q v H2 e2 (k v H2 p)
theorem ed_var {j : Nat} {v : V} (h : σ[j]? = some (some v)) (hd : Dp K H v d) : EvD K (tVar j) σ H d := fun H1 e Q q => ⟨v, h, q v H1 (Ex.refl H1) (Dp.ex e d v hd)⟩
theorem ed_L {ns : List Int} (h : EvL te σ H (vi ns)) : EvD K te σ H (.list (di ns)) := fun H1 e Q q => h H1 e Q fun p H2 _ e2 h2 => q _ H2 e2 (dp_lst (sq_of h2))
theorem ed_B (h : EvB te σ H b) : EvD K te σ H (barD b) := fun H1 e Q q => h H1 e Q fun v H2 e2 h2 => q v H2 e2 (by
  cases b with
  | none =>
    have h2' : v = .non := h2
    rw [h2']
    exact .non
  | some x =>
    obtain ⟨p, e1, g⟩ := h2
    rw [e1]
    exact .tup (st_of g) (.cons (.int _) (.cons (.str _) .nil)))
theorem ep_L (h : EvL te σ H xs) (k : ∀ p H1 H2, Ex H H1 → H1 p = none → Ex H1 H2 → H2 p = some (.lst xs) → P (.ref p) H2) : EvP te σ H P := fun H1 e Q q => h H1 e Q fun p H2 hp e2 h2 => q _ H2 e2 (k p H1 H2 e hp e2 h2)
theorem ep_U (h : EvU te σ H xs) (k : ∀ p H1 H2, Ex H H1 → H1 p = none → Ex H1 H2 → H2 p = some (.tup xs) → P (.ref p) H2) : EvP te σ H P := fun H1 e Q q => h H1 e Q fun p H2 hp e2 h2 => q _ H2 e2 (k p H1 H2 e hp e2 h2)
theorem ed_ifT (h : EvT tt σ H true) (k : ∀ H1, Ex H H1 → EvP ta σ H1 P) : EvP (tIf tt ta tb) σ H P := fun H1 e Q q =>
  h H1 e _ fun H2 e2 => iteT (k H2 (e.trans e2) H2 (Ex.refl H2) Q fun v H3 e3 p => q v H3 (e2.trans e3) p)
theorem ed_ifF (h : EvT tt σ H false) (k : ∀ H1, Ex H H1 → EvP tb σ H1 P) : EvP (tIf tt ta tb) σ H P := fun H1 e Q q =>
  h H1 e _ fun H2 e2 => iteF (k H2 (e.trans e2) H2 (Ex.refl H2) Q fun v H3 e3 p => q v H3 (e2.trans e3) p)
theorem ed_U {ds : List PyData} (h : EvU te σ H vs) (hd : DpAll K H vs ds) : EvD K te σ H (.tuple ds) := fun H1 e Q q => h H1 e Q fun p H2 _ e2 h2 => q _ H2 e2 (.tup (st_of h2) (DpAll.ex (e.trans e2) ds vs hd))
theorem ev_reprX (h : EvD K te σ H d) (hs : Sho d) (no : ∀ y, d ≠ .str y) : Ev (tCB (rReprX K) (tCons te tNil)) σ H (.str d.shown) := fun H1 e Q q =>
  h H1 e _ fun v H2 e2 hd => ⟨v, d, rfl, hd, hs, no, q H2 e2⟩
/-- x, y, z = (value, new list, first bar), by a tuple -/
theorem q_tup3B {j l : Nat} {tc : TE} {x : V} (h1 : Ev ta σ H x) (h2 : EvL tb σ H xs) (h3 : EvB tc σ H b) (k : ∀ p v H1, H p = none → Ex H H1 → H1 p = some (.lst xs) → BarV b v H1 → tz D (((σ.set i (some x)).set j (some (.ref p))).set l (some v)) H1) :
    tSeq (tAsg (tTup (tCons ta (tCons tb (tCons tc tNil)))) (gTup K 3 (gCons (gName i) (gCons (gName j) (gCons (gName l) gNil))))) tz D σ H :=
  h1 H (Ex.refl H) _ fun H1 e1 => h2 H1 e1 _ fun p H2 hp e2 g2 => h3 H2 (e1.trans e2) _ fun v H3 e3 g3 => ⟨sz_of (by show 3 ≤ 100000; decide), fun r hr => ⟨r, _, rfl, st_of upd_same, rfl, _, _, rfl, _, _, rfl, _, _, rfl, rfl,
    k p v _ (fresh_back e1 hp) (((e1.trans e2).trans e3).trans (Ex.new hr)) (Ex.new hr _ _ (e3 _ _ g2)) (g3.ex (Ex.new hr))⟩⟩
end
theorem sho_list {ns : List Int} (hw : wide 1900 ns) (hl : ns.length ≤ 4000) : Sho (.list (di ns)) := by
  refine ⟨by simp [PyData.showable, showable_ints (hw.mono (by decide))], by simp [PyData.hasDict, noDict_ints], by simp [PyData.depth, depthAll_ints], ?_⟩
  rw [PyData.shown]
  have := listText_le (shown_le (by decide) hw)
  rw [shownAll_ints, List.length_map, ← shownAll_ints] at this
  rw [sizeLine_eq]
  omega
theorem sho_none : Sho .none := ⟨rfl, rfl, by decide, by
  rw [PyData.shown]
  exact sz_of (by decide)⟩
theorem tup2_sho {n : Int} {d : PyData} (hn : n.natAbs.log2 < 1900) (h1 : d.showable = true) (h2 : d.hasDict = false) (h3 : d.depth = 0) (h4 : d.shown.length ≤ 40) : Sho (.tuple [.int n, d]) := by
  refine ⟨by simp [PyData.showable, PyData.showableAll, h1]; omega, by simp [PyData.hasDict, PyData.hasDictAll, h2], by simp [PyData.depth, PyData.depthAll, h3], ?_⟩
  rw [PyData.shown]
  have hi : ((toString n : Str)).length ≤ 1901 := by
    rw [PySem.ofString_length]
    exact int_text_length_le (by decide) hn
  have := tupleText_le (ts := PyData.shownAll [.int n, d]) (L := 1901) (by
    intro t ht
    simp only [PyData.shownAll, List.mem_cons, List.not_mem_nil, or_false] at ht
    rcases ht with e | e
    · rw [e, PyData.shown]
      exact hi
    · rw [e]
      omega)
  have e2 : (PyData.shownAll [.int n, d]).length = 2 := rfl
  rw [e2] at this
  rw [sizeLine_eq]
  omega
theorem small_log {n : Nat} (h : n < 2 ^ 100) : ((n : Int)).natAbs.log2 < 1900 := Nat.lt_of_lt_of_le (PySem.Flt.log2_lt_of (k := 100) (by decide) (by rw [Int.natAbs_natCast]; exact h)) (by decide)
theorem sho_bar {b : Option (Nat × Str)} (h : ∀ n s, b = some (n, s) → n < 2 ^ 100 ∧ (s = "rest" ∨ s = "below")) : Sho (barD b) := by
  cases b with
  | none => exact sho_none
  | some x =>
    obtain ⟨n, s⟩ := x
    obtain ⟨h1, h2⟩ := h n s rfl
    refine tup2_sho (small_log h1) rfl rfl rfl ?_
    rcases h2 with e | e <;> subst e <;> (rw [PyData.shown]; decide +kernel)
end Bk
namespace Bk
open PySem PySem.Spec PyProof.Rows L2 Evl
/-! ### for x in reversed(a tuple); any of a tuple of numbers; drawn lists and tuples in pairs -/
theorem pi_revAK {X : Cx} {K : PySem.W.Frag} {tg e : Expr} {te : TE} {p pos : Pos} (h : X.K = K) (hg : Gl X "reversed") (hm : X.mg "reversed" = none) (he : PE X e te) (hs : starEach [e] X.env = (false, eval e X.env) :: starEach [] X.env := by rfl) : PI X tg (.Call (.Name "reversed" p) [e] [] pos) (RT.iRevA K te) := by
  subst h
  exact RT.pi_revA hg hm he hs
section
variable {K : PySem.W.Frag} {σ : L2.St} {H : Hp} {ta tb te tl ti : TE} {t : TT} {D : Ends} {tu tz : TS}
theorem s_forRevT {a : Addr} {xs : List V} {j : Nat} (h : Ev tl σ H (.ref a)) (hx : SqT K H a xs) (Pv : Nat → L2.St → Hp → Prop) (h0 : ∀ H1, Ex H H1 → Pv 0 σ H1) (hl : ∀ i σ' H', i ≤ xs.length → Pv i σ' H' → SqT K H' a xs)
    (hs : ∀ i x σ' H', xs[xs.length - 1 - i]? = some x → i < xs.length → Pv i σ' H' → tu { D with nx := Pv (i + 1), ct := Pv (i + 1), bk := D.nx } (σ'.set j (some x)) H') (hd : ∀ σ' H', Pv xs.length σ' H' → D.nx σ' H') : tFor (RT.iRevA K tl) (gName j) tu D σ H :=
  h H (Ex.refl H) _ fun H1 e => ⟨a, xs, rfl, Or.inr ⟨ex_t e hx, by
    refine ⟨fun i m σ H => m = xs.length - i ∧ i ≤ xs.length ∧ Pv i σ H, ⟨xs.length, rfl, Nat.zero_le _, h0 H1 e⟩, ?_⟩
    rintro i m σ' H' ⟨rfl, hi, p⟩
    have q := hl i σ' H' hi p
    by_cases hlt : i < xs.length
    · refine .inr ⟨⟨hlt, xs, xs[xs.length - 1 - i], q, List.getElem?_eq_getElem (by omega)⟩, Pv (i + 1), fun σ2 H2 p' => ⟨xs.length - (i + 1), by omega, rfl, hlt, p'⟩, ?_⟩
      rintro x H2 ⟨rfl, gx⟩
      exact hs i x σ' H2 (gx xs q) hlt p
    · have ei : i = xs.length := by omega
      subst ei
      exact .inl ⟨Nat.le_refl _, hd σ' H' p⟩⟩⟩
theorem q_forRevT {a : Addr} {xs : List V} {j : Nat} (h : Ev tl σ H (.ref a)) (hx : SqT K H a xs) (Pv : Nat → L2.St → Hp → Prop) (h0 : ∀ H1, Ex H H1 → Pv 0 σ H1) (hl : ∀ i σ' H', i ≤ xs.length → Pv i σ' H' → SqT K H' a xs)
    (hs : ∀ i x σ' H', xs[xs.length - 1 - i]? = some x → i < xs.length → Pv i σ' H' → tu { D with nx := Pv (i + 1), ct := Pv (i + 1), bk := tz D } (σ'.set j (some x)) H') (hd : ∀ σ' H', Pv xs.length σ' H' → tz D σ' H') : tSeq (tFor (RT.iRevA K tl) (gName j) tu) tz D σ H :=
  s_forRevT (D := { D with nx := tz D }) h hx Pv h0 hl hs hd
def rAnyT (K : PySem.W.Frag) : List V → Hp → VK → Prop := fun vs H Q => ∃ (a : Addr) (ns : List Int), vs = [V.ref a] ∧ SqT K H a (vi ns) ∧ Q (.bl (ns.any fun n => n != 0)) H
theorem plain_ints : ∀ ns : List Int, PyData.plainAll (di ns) = true
  | [] => rfl
  | n :: r => by
    show PyData.plainAll (PyData.int n :: di r) = true
    rw [PyData.plainAll, plain_ints r]
    rfl
theorem call_anyT {X : Cx} (h : X.K = K) (hc : X.calm = true) : CallR X (.builtin "any") (rAnyT K) := by
  subst h
  intro pins s σ H vs us Q I r h
  obtain ⟨a, ns, rfl, hs, q⟩ := h
  obtain ⟨its, rv, ht, _⟩ := I.tuple hs
  obtain ⟨as, ra⟩ := Dp.readsAll I (di ns) (vi ns) its (dpAll_ints X.K H ns) rv
  rw [Vals.ref1 r]
  obtain ⟨o, ho, hcl, n, hd⟩ := ht
  refine PySem.W.any_tuple_data (xs := di ns) (as := as) (I.ok.hd hc) ⟨o, ho, hcl, n, hd⟩ (by simpa using ra) (plain_ints ns) ?_ fun h' tk hk => ?_
  · intro x hx
    obtain ⟨m, _, rfl⟩ := List.mem_map.mp hx
    trivial
  · refine ⟨.bl (ns.any fun n => n != 0), H, I.kept hk, ?_, q⟩
    show Value.bool _ = Value.bool _
    rw [List.any_map]
    rfl
theorem ev_anyT {a : Addr} {ns : List Int} (ha : Ev ta σ H (.ref a)) (h : SqT K H a (vi ns)) : Ev (tCB (rAnyT K) (tCons ta tNil)) σ H (.bl (ns.any fun n => n != 0)) := fun H1 e Q q =>
  ha H1 e _ fun H2 e2 => ⟨a, ns, rfl, ex_t (e.trans e2) h, q H2 e2⟩
end
section
variable {K : PySem.W.Frag} {σ : L2.St} {H : Hp} {ta tb te tl ti : TE} {a : Addr} {d d1 d2 n : Nat} {D : Ends} {tz : TS} {x z : V} {sp : Sp} {E : XK}
/-- x, y = drawn tuple, drawn tuple -/
theorem qw_parUU {i j : Nat} {PA PB : List V → Prop} (h1 : EvWU a d1 ta σ H PA) (h2 : EvWU a d2 tb σ H PB) (w : Well H a n) (hl : n + (d1 + d2) ≤ 2 ^ 50)
    (k : ∀ p q xs ys H1, H p = none → H q = none → p ≠ q → But a H H1 → Well H1 a (n + (d1 + d2)) → H1 p = some (.tup xs) → H1 q = some (.tup ys) → PA xs → PB ys → tz D ((σ.set i (some (.ref p))).set j (some (.ref q))) H1) :
    tSeq (tPar i j (tCons ta (tCons tb tNil))) tz D σ H :=
  h1 n H (But.refl a H) w (by omega) _ fun p xs H2 hp b2 w2 g2 pa => h2 (n + d1) H2 b2 w2 (by omega) _ fun q ys H3 hq b3 w3 g3 pb => ⟨_, _, rfl, by
    refine k p q xs ys _ hp (but_free b2 w2 hq) (ne_of_none g2 hq) (b2.trans b3) ?_ (b3 _ _ (w.ne hp) g2) g3 pa pb
    rw [← Nat.add_assoc]
    exact w3⟩
theorem qw_parLL {i j : Nat} {PA PB : List V → Prop} (h1 : EvWL a d1 ta σ H PA) (h2 : EvWL a d2 tb σ H PB) (w : Well H a n) (hl : n + (d1 + d2) ≤ 2 ^ 50)
    (k : ∀ p q xs ys H1, H p = none → H q = none → p ≠ q → But a H H1 → Well H1 a (n + (d1 + d2)) → H1 p = some (.lst xs) → H1 q = some (.lst ys) → PA xs → PB ys → tz D ((σ.set i (some (.ref p))).set j (some (.ref q))) H1) :
    tSeq (tPar i j (tCons ta (tCons tb tNil))) tz D σ H :=
  h1 n H (But.refl a H) w (by omega) _ fun p xs H2 hp b2 w2 g2 pa => h2 (n + d1) H2 b2 w2 (by omega) _ fun q ys H3 hq b3 w3 g3 pb => ⟨_, _, rfl, by
    refine k p q xs ys _ hp (but_free b2 w2 hq) (ne_of_none g2 hq) (b2.trans b3) ?_ (b3 _ _ (w.ne hp) g2) g3 pa pb
    rw [← Nat.add_assoc]
    exact w3⟩
/-- x, y = new tuple, new list -/
theorem q_parUL {i j : Nat} {xs ys : List V} (h1 : EvU ta σ H xs) (h2 : ∀ p H1, H p = none → Ex H H1 → H1 p = some (.tup xs) → EvL tb σ H1 ys) (k : ∀ p q H1, H p = none → H q = none → p ≠ q → Ex H H1 → H1 p = some (.tup xs) → H1 q = some (.lst ys) → tz D ((σ.set i (some (.ref p))).set j (some (.ref q))) H1) :
    tSeq (tPar i j (tCons ta (tCons tb tNil))) tz D σ H :=
  h1 H (Ex.refl H) _ fun p H2 hp e2 g2 => h2 p H2 hp e2 g2 H2 (Ex.refl H2) _ fun q H3 hq e3 g3 => ⟨_, _, rfl, k p q H3 hp (fresh_back e2 hq) (ne_of_none g2 hq) (e2.trans e3) (e3 _ _ g2) g3⟩
/-- x, y = (c, d) by a tuple -/
theorem q_tupVV {i j : Nat} {x y : V} (h1 : Ev ta σ H x) (h2 : Ev tb σ H y) (k : ∀ H1, Ex H H1 → tz D ((σ.set i (some x)).set j (some y)) H1) :
    tSeq (tAsg (tTup (tCons ta (tCons tb tNil))) (gTup K 2 (gCons (gName i) (gCons (gName j) gNil)))) tz D σ H :=
  h1 H (Ex.refl H) _ fun H2 e2 => h2 H2 e2 _ fun H3 e3 => ⟨sz_of (by show 2 ≤ 100000; decide), fun r hr => ⟨r, _, rfl, st_of upd_same, rfl, _, _, rfl, _, _, rfl, rfl, k _ ((e2.trans e3).trans (Ex.new hr))⟩⟩
/-- a new list against one that is there -/
theorem ev_neLV {p : Addr} {ns ms : List Int} (ha : EvL ta σ H (vi ns)) (hb : Ev tb σ H (.ref p)) (h : SqL K H p (vi ms)) : Ev (tOp (rNeD K) ta tb) σ H (.bl (!decide (ns = ms))) := fun H1 e Q k =>
  ha H1 e _ fun p H2 hp e2 h2 => hb H2 (e.trans e2) _ fun H3 e3 => rv_neL (sq_of (e3 _ _ h2)) (ex_l ((e.trans e2).trans e3) h) H3 (Ex.refl H3) Q fun H4 e4 => k H4 ((e2.trans e3).trans e4)
theorem ev_eqLV {p : Addr} {ns ms : List Int} (ha : EvL ta σ H (vi ns)) (hb : Ev tb σ H (.ref p)) (h : SqL K H p (vi ms)) : Ev (tOp (rEqD K) ta tb) σ H (.bl (decide (ns = ms))) := fun H1 e Q k =>
  ha H1 e _ fun p H2 hp e2 h2 => hb H2 (e.trans e2) _ fun H3 e3 => rv_eqL (sq_of (e3 _ _ h2)) (ex_l ((e.trans e2).trans e3) h) H3 (Ex.refl H3) Q fun H4 e4 => k H4 ((e2.trans e3).trans e4)
/-- f(new list, x), a new list -/
theorem el_callL1 {xs zs : List V} (h : EvL ta σ H xs) (h2 : ∀ p H1, Ex H H1 → H1 p = some (.lst xs) → Ev tb σ H1 x) (hs : ∀ p H1, Ex H H1 → H1 p = some (.lst xs) → SpL sp [.ref p, x] H1 zs) : EvL (tCall sp [] E (tCons ta (tCons tb tNil))) σ H zs := fun H1 e Q q =>
  h H1 e _ fun p H2 hp e2 g2 => h2 p H2 (e.trans e2) g2 H2 (Ex.refl H2) _ fun H3 e3 => hs p H3 ((e.trans e2).trans e3) (e3 _ _ g2) H3 (Ex.refl H3) Q (fun r H4 hr e4 h4 => q r H4 (fresh_back (e2.trans e3) hr) ((e2.trans e3).trans e4) h4) E
/-- f(x, new tuple), a new list -/
theorem el_callVU {xs zs : List V} (h : Ev ta σ H x) (h2 : EvU tb σ H xs) (hs : ∀ p H1, Ex H H1 → H1 p = some (.tup xs) → SpL sp [x, .ref p] H1 zs) : EvL (tCall sp [] E (tCons ta (tCons tb tNil))) σ H zs := fun H1 e Q q =>
  h H1 e _ fun H2 e2 => h2 H2 (e.trans e2) _ fun p H3 hp e3 g3 => hs p H3 ((e.trans e2).trans e3) g3 H3 (Ex.refl H3) Q (fun r H4 hr e4 h4 => q r H4 (fresh_back (e2.trans e3) hr) ((e2.trans e3).trans e4) h4) E
/-- [..][k] of a new list -/
theorem ev_ixN {xs : List V} {k : Int} (ha : EvL ta σ H xs) (hb : ∀ H1, Ex H H1 → Ev tb σ H1 (.int k)) (hx : atI xs k = some z) : Ev (tOp (rIxL K) ta tb) σ H z :=
  ev_opL1 ha hb fun p H1 h1 _ => rv_ixL (sq_of h1) hx
/-- xs[-1] = drawn -/
theorem sw_setLast {xs : List V} {l : Addr} {P : V → Prop} (hl : H l = some (.lst xs)) (nl : l ≠ a) (h : EvW a d te σ H P) (ho : ∀ H1, Ev ta σ H1 (.ref l)) (hi : ∀ H1, Ev tb σ H1 (.int (-1))) (hj : 0 < xs.length) (w : Well H a n) (hn : n + d ≤ 2 ^ 50)
    (k : ∀ v H1, But a H H1 → Well H1 a (n + d) → P v → D.nx σ (upd H1 l (.lst (xs.set (xs.length - 1) v)))) : tAsg te (gSub ta tb rSetL) D σ H :=
  h n H (But.refl a H) w hn _ fun v H1 b1 w1 pv => ho H1 H1 (Ex.refl H1) _ fun H2 e2 => hi H2 H2 (Ex.refl H2) _ fun H3 e3 =>
    ⟨l, xs, (-1 : Int), xs.length - 1, rfl, rfl, (e2.trans e3) _ _ (b1 _ _ nl hl), (by
      unfold ixN
      rw [if_neg (by decide), if_pos (by omega)]
      congr 1
      omega), k v H3 (b1.trans (But.ex (e2.trans e3))) (w1.ex (e2.trans e3)) pv⟩
end
section
variable {K : PySem.W.Frag} {σ : L2.St} {H : Hp} {ta tb te tl ti : TE} {a : Addr} {d n : Nat} {D : Ends} {tu tz : TS}
theorem s_forTn {a : Addr} {xs : List V} {j : Nat} (h : Ev tl σ H (.ref a)) (hx : SqT K H a xs) (Pv : Nat → L2.St → Hp → Prop) (h0 : ∀ H1, Ex H H1 → Pv 0 σ H1) (hl : ∀ i σ' H', i ≤ xs.length → Pv i σ' H' → SqT K H' a xs)
    (hs : ∀ i x σ' H', xs[i]? = some x → Pv i σ' H' → tu { D with nx := Pv (i + 1), ct := Pv (i + 1), bk := D.nx } (σ'.set j (some x)) H') (hd : ∀ σ' H', Pv xs.length σ' H' → D.nx σ' H') : tFor (iTup K tl) (gName j) tu D σ H := s_forT h hx Pv h0 hl hs hd
theorem q_forTn {a : Addr} {xs : List V} {j : Nat} (h : Ev tl σ H (.ref a)) (hx : SqT K H a xs) (Pv : Nat → L2.St → Hp → Prop) (h0 : ∀ H1, Ex H H1 → Pv 0 σ H1) (hl : ∀ i σ' H', i ≤ xs.length → Pv i σ' H' → SqT K H' a xs)
    (hs : ∀ i x σ' H', xs[i]? = some x → Pv i σ' H' → tu { D with nx := Pv (i + 1), ct := Pv (i + 1), bk := tz D } (σ'.set j (some x)) H') (hd : ∀ σ' H', Pv xs.length σ' H' → tz D σ' H') : tSeq (tFor (iTup K tl) (gName j) tu) tz D σ H := s_forTn (D := { D with nx := tz D }) h hx Pv h0 hl hs hd
theorem sw_retL {P : List V → Prop} (h : EvWL a d te σ H P) (w : Well H a n) (l : n + d ≤ 2 ^ 50) (k : ∀ p xs H1, H p = none → But a H H1 → Well H1 a (n + d) → H1 p = some (.lst xs) → P xs → D.rt (.ref p) H1) : tRet te D σ H :=
  h n H (But.refl a H) w l _ fun p xs H2 hp b2 w2 h2 px => k p xs H2 hp b2 w2 h2 px
end
theorem cut_drop (xs : List V) (m : Nat) : cutV xs (some (m : Int)) none = xs.drop m := by
  unfold cutV
  rw [HT.sIx_none, HT.sIx_nat]
  by_cases h : m ≤ xs.length
  · rw [Nat.min_eq_left h, List.take_of_length_le (by rw [List.length_drop]; exact Nat.le_refl _)]
  · rw [Nat.min_eq_right (by omega), List.drop_of_length_le (Nat.le_refl _), List.drop_of_length_le (by omega), List.take_nil]
end Bk
namespace Bk
open PySem PySem.Spec PyProof.Rows L2 Evl
/-! ### tuple * int, also once and never -/
theorem tuple_mulW1 (l : Addr) (items : Array Value) (n : Nat) (dd : Option Addr) (sl : Array (Option Value)) (x : Int) (u : Tok) (c0 : (decide (x < -(2 ^ 63)) || decide (x ≥ 2 ^ 63)) = false) (c1 : (items.isEmpty || x == 1) = true) :
    Meets (Builtin.«tuple.__mul__» ⟨[.ref l, .int x u], []⟩) (fun _ R s => s.heap.get? l = some { cls := .type "tuple", dict := dd, data := .seq items n, slots := sl } ∧
      R (.ok (.ret (Value.ref l))) s) :=
  .of_wp fun prog w A R s h => by
    obtain ⟨hp, g, d, tk, os⟩ := s
    obtain ⟨hl, h⟩ := h
    have f1 := AutoSeq1.idx_int
    wp_walk using wpAny_loadPart' hl
    repeat (first
      | (refine wpAny_ite_false (decide_eq_false (by rw [c0]; exact Bool.false_ne_true)) ?_; wp_walk using wpAny_loadPart' hl)
      | (refine wpAny_ite_true (decide_eq_true (by rw [c1])) ?_; wp_walk using wpAny_loadPart' hl))
    exact ⟨_, rfl, h⟩
theorem tuple_mulW0 (l : Addr) (items : Array Value) (n : Nat) (dd : Option Addr) (sl : Array (Option Value)) (x : Int) (u : Tok) (c0 : (decide (x < -(2 ^ 63)) || decide (x ≥ 2 ^ 63)) = false) (c1 : (items.isEmpty || x == 1) = false) (c2 : (decide (x ≤ 0) || items.isEmpty) = true) :
    Meets (Builtin.«tuple.__mul__» ⟨[.ref l, .int x u], []⟩) (fun _ R s => s.heap.get? l = some { cls := .type "tuple", dict := dd, data := .seq items n, slots := sl } ∧
      R (.ok (.ret (Value.ref s.heap.objs.size))) { s with heap := s.heap.push { cls := Value.type "tuple", data := Data.seq #[] }, toks := s.toks }) :=
  .of_wp fun prog w A R s h => by
    obtain ⟨hp, g, d, tk, os⟩ := s
    obtain ⟨hl, h⟩ := h
    have f1 := AutoSeq1.idx_int
    wp_walk using wpAny_loadPart' hl
    repeat (first
      | (refine wpAny_ite_false (decide_eq_false (by rw [c0]; exact Bool.false_ne_true)) ?_; wp_walk using wpAny_loadPart' hl)
      | (refine wpAny_ite_false (decide_eq_false (by rw [c1]; exact Bool.false_ne_true)) ?_; wp_walk using wpAny_loadPart' hl)
      | (refine wpAny_ite_true (decide_eq_true (by rw [c2])) ?_; wp_walk using wpAny_loadPart' hl))
    exact ⟨_, rfl, h⟩
def rRepTA (K : PySem.W.Frag) : R2 := fun x y H Q => ∃ l k xs, x = .ref l ∧ y = .int k ∧ SqT K H l xs ∧ xs ≠ [] ∧ 0 ≤ k ∧ k ≤ 1000 ∧ xs.length ≤ 1000 ∧ (k = 1 → Q (.ref l) H) ∧ (k ≠ 1 → ∀ p, H p = none → Q (.ref p) (upd H p (.tup (List.replicate k.toNat xs).flatten)))
theorem op_repTA {X : Cx} {K : PySem.W.Frag} (hK : X.K = K) : OpR X (binaryOp .Mult) (rRepTA K) := by
  subst hK
  intro pins s σ H x y v u Q I rx ry h
  obtain ⟨l, k, xs, rfl, rfl, hT, hne, h0, h2, hz, q1, q2⟩ := h
  by_cases hk : 2 ≤ k
  · exact op_repT pins s σ H _ _ v u Q I rx ry ⟨l, k, xs, rfl, rfl, hT, hne, hk, h2, hz, q2 (by omega)⟩
  cases rx
  obtain ⟨t, rfl⟩ := ry
  obtain ⟨its, r, ⟨⟨cls, dd, data, sl⟩, ho, hc, n, hd⟩, hs⟩ := I.tuple hT
  simp only at hc hd
  subst hc hd
  have hle : its.length = xs.length := r.length.symm
  have hn : its ≠ [] := fun e => hne (by
    rw [e] at hle
    exact List.eq_nil_of_length_eq_zero hle.symm)
  have hi : its.toArray.isEmpty = false := by
    cases its with
    | nil => exact absurd rfl hn
    | cons a b => rfl
  have c0 : (decide (k < -(2 ^ 63)) || decide (k ≥ 2 ^ 63)) = false := by
    rw [decide_eq_false (by omega), decide_eq_false (by omega)] <;> rfl
  by_cases e1 : k = 1
  · have c1 : (its.toArray.isEmpty || k == 1) = true := by
      rw [hi, Bool.false_or, e1]
      rfl
    exact wpAny_binaryOp_repeat_ref (T := "tuple") (U := "int") (by decide) ⟨_, ho, rfl⟩ (fun s' => typeIs_int s' k t) noFill_tuple_mul F.fills_int_mul F.slot_int_rmul repeat_tuple F.slot_int_index.lookup
      (call_meets F.slot_int_rmul (typeIs_int s k t) F.entry_int_rmul (F.args_int_rmul_2 _ _) (int_rmul_tuple k t l its.toArray n dd sl)
        ⟨ho, rfl, ⟨_, ho, rfl⟩, call_meets F.slot_tuple_mul ⟨_, ho, rfl⟩ F.entry_tuple_mul (F.args_tuple_mul_2 _ _) (tuple_mulW1 l its.toArray n dd sl k t c0 c1) ⟨ho, ⟨.ref l, H, I, rfl, q1 e1⟩⟩⟩)
  · have e0 : k = 0 := by omega
    have c1 : (its.toArray.isEmpty || k == 1) = false := by
      rw [hi, Bool.false_or]
      exact beq_eq_false_iff_ne.mpr (by omega)
    have c2 : (decide (k ≤ 0) || its.toArray.isEmpty) = true := by
      rw [decide_eq_true (by omega)]
      rfl
    refine wpAny_binaryOp_repeat_ref (T := "tuple") (U := "int") (by decide) ⟨_, ho, rfl⟩ (fun s' => typeIs_int s' k t) noFill_tuple_mul F.fills_int_mul F.slot_int_rmul repeat_tuple F.slot_int_index.lookup
      (call_meets F.slot_int_rmul (typeIs_int s k t) F.entry_int_rmul (F.args_int_rmul_2 _ _) (int_rmul_tuple k t l its.toArray n dd sl)
        ⟨ho, rfl, ⟨_, ho, rfl⟩, call_meets F.slot_tuple_mul ⟨_, ho, rfl⟩ F.entry_tuple_mul (F.args_tuple_mul_2 _ _) (tuple_mulW0 l its.toArray n dd sl k t c0 c1 c2) ⟨ho, ?_⟩⟩)
    have q := q2 e1
    rw [show k.toNat = 0 by omega] at q
    refine ⟨.ref s.heap.objs.size, _, I.laid (t' := s.toks) (o := .tup []) (fun b ob q => Heap.get?_push_of_some _ q) (Nat.le_refl _) ?_, rfl, q _ (I.hok.fresh (Nat.le_refl _))⟩
    exact ⟨Nat.zero_le _, [], .nil, IsTup.new _ _⟩
/-! ### more with a well: lists and tuples drawn -/
section
variable {K : PySem.W.Frag} {σ : L2.St} {H : Hp} {ta tb te tl ti : TE} {t : TA} {a : Addr} {d d1 d2 n : Nat} {D : Ends} {tz : TS} {x z : V} {sp : Sp} {E : XK} {PA PB : List V → Prop}
theorem ewl_rep {xs : List V} {P : Int → Prop} (ha : EvL ta σ (hid a H) xs) (hb : EvW a d tb σ H (fun v => ∃ r, v = .int r ∧ P r)) (hP : ∀ r, P r → 0 ≤ r ∧ r ≤ 300) (hz : xs.length ≤ 300) : EvWL a d (tOp rRep ta tb) σ H (fun ys => ∃ r, P r ∧ ys = (List.replicate r.toNat xs).flatten) := fun n H1 b w l Q q =>
  ha H1 (ex_hid b) _ fun p H2 hp e2 h2 => hb n H2 (b.trans (But.ex e2)) (w.ex e2) l _ fun v H3 b3 w3 ⟨r, er, pr⟩ => by
    subst er
    obtain ⟨r0, r1⟩ := hP r pr
    have h3 := b3 _ _ (w.ne hp) h2
    have hm : xs.length * r.toNat ≤ 300 * 300 := Nat.mul_le_mul hz (by omega)
    exact ⟨p, r, xs, rfl, rfl, h3, by omega, by omega, sz_of (by omega), fun l hl => q l _ _ (but_free ((But.ex e2).trans b3) w3 hl) (((But.ex e2).trans b3).trans (But.new hl)) (w3.ex (Ex.new hl)) upd_same ⟨r, pr, rfl⟩⟩
theorem ewl_cat {p : Addr} {xs : List V} (ha : Ev ta σ (hid a H) (.ref p)) (h : H p = some (.lst xs)) (np : p ≠ a) (hb : EvWL a d tb σ H PB) (hz : ∀ ys, PB ys → xs.length + ys.length ≤ 100000) : EvWL a d (tOp rCat ta tb) σ H (fun zs => ∃ ys, PB ys ∧ zs = xs ++ ys) := fun n H1 b w l Q q =>
  ha H1 (ex_hid b) _ fun H2 e2 => hb n H2 (b.trans (But.ex e2)) (w.ex e2) l _ fun r ys H3 hr b3 w3 h3 py => ⟨p, r, xs, ys, rfl, rfl, b3 _ _ np (e2 _ _ (b _ _ np h)), h3, sz_of (hz ys py), fun l hl => q l _ _ (but_free ((But.ex e2).trans b3) w3 hl) (((But.ex e2).trans b3).trans (But.new hl)) (w3.ex (Ex.new hl)) upd_same ⟨ys, py, rfl⟩⟩
theorem ewu_tupOf (h : EvWL a d te σ H PA) : EvWU a d (tCB (rTupOf K) (tCons te tNil)) σ H PA := fun n H1 b w l Q q =>
  h n H1 b w l _ fun p xs H2 hp b2 w2 h2 px => ⟨p, xs, rfl, .inl ⟨sq_of h2, fun l hl => q l xs _ (but_free b2 w2 hl) (b2.trans (But.new hl)) (w2.ex (Ex.new hl)) upd_same px⟩⟩
theorem ewu_tup (h : EvWA a d t σ H PA) (hz : ∀ xs, PA xs → xs.length ≤ 100000) : EvWU a d (tTup t) σ H PA := fun n H1 b w l Q q =>
  h n H1 b w l _ fun xs H2 b2 w2 pl => ⟨sz_of (hz xs pl), fun p hp => q p xs _ (but_free b2 w2 hp) (b2.trans (But.new hp)) (w2.ex (Ex.new hp)) upd_same pl⟩
theorem ewu_rep {xs : List V} {P : Int → Prop} (ha : EvU ta σ (hid a H) xs) (hb : EvW a d tb σ H (fun v => ∃ r, v = .int r ∧ P r)) (hP : ∀ r, P r → 0 ≤ r ∧ r ≤ 300) (h0 : xs ≠ []) (hz : xs.length ≤ 300) : EvWU a d (tOp (rRepTA K) ta tb) σ H (fun ys => ∃ r, P r ∧ ys = (List.replicate r.toNat xs).flatten) := fun n H1 b w l Q q =>
  ha H1 (ex_hid b) _ fun p H2 hp e2 h2 => hb n H2 (b.trans (But.ex e2)) (w.ex e2) l _ fun v H3 b3 w3 ⟨r, er, pr⟩ => by
    subst er
    obtain ⟨r0, r1⟩ := hP r pr
    have h3 := b3 _ _ (w.ne hp) h2
    refine ⟨p, r, xs, rfl, rfl, st_of h3, h0, r0, by omega, by omega, fun e1 => ?_, fun _ l hl => q l _ _ (but_free ((But.ex e2).trans b3) w3 hl) (((But.ex e2).trans b3).trans (But.new hl)) (w3.ex (Ex.new hl)) upd_same ⟨r, pr, rfl⟩⟩
    exact q p xs H3 hp ((But.ex e2).trans b3) w3 h3 ⟨r, pr, by rw [e1]; simp⟩
theorem ewu_cat (ha : EvWU a d1 ta σ H PA) (hb : EvWU a d2 tb σ H PB) (h0 : ∀ xs, PA xs → xs ≠ []) (hz : ∀ xs ys, PA xs → PB ys → xs.length + ys.length ≤ 100000) : EvWU a (d1 + d2) (tOp (rCatT K) ta tb) σ H (fun zs => ∃ xs ys, PA xs ∧ PB ys ∧ zs = xs ++ ys) := fun n H1 b w l Q q =>
  ha n H1 b w (by omega) _ fun p xs H2 hp b2 w2 h2 px => hb (n + d1) H2 (b.trans b2) w2 (by omega) _ fun r ys H3 hr b3 w3 h3 py => by
    rw [Nat.add_assoc] at w3
    have h2' := b3 _ _ (w.ne hp) h2
    refine ⟨p, r, xs, ys, rfl, rfl, st_of h2', st_of h3, h0 xs px, sz_of (hz xs ys px py), fun e => ?_, fun _ l hl => q l _ _ (but_free (b2.trans b3) w3 hl) ((b2.trans b3).trans (But.new hl)) (w3.ex (Ex.new hl)) upd_same ⟨xs, ys, px, py, rfl⟩⟩
    exact q p xs H3 hp (b2.trans b3) w3 h2' ⟨xs, ys, px, py, by rw [e, List.append_nil]⟩
/-- f(well, drawn ..), which draws itself -/
theorem ewu_callA (h : EvWA a d1 t σ H PA) (hs : ∀ vs n H1, PA vs → Well H1 a n → n + d2 ≤ 2 ^ 50 → ∀ Q : VK, (∀ p xs H2, H1 p = none → But a H1 H2 → Well H2 a (n + d2) → H2 p = some (.tup xs) → PB xs → Q (.ref p) H2) → ∀ E : XK, sp vs H1 Q E) : EvWU a (d1 + d2) (tCall sp [] E t) σ H PB := fun n H1 b w l Q q =>
  h n H1 b w (by omega) _ fun vs H2 b2 w2 pv => by
    rw [List.append_nil]
    exact hs vs (n + d1) H2 pv w2 (by omega) Q (fun p xs H3 hp b3 w3 h3 px => q p xs H3 (but_free b2 w2 hp) (b2.trans b3) (by rw [← Nat.add_assoc]; exact w3) h3 px) E
theorem ewl_callA (h : EvWA a d1 t σ H PA) (hs : ∀ vs n H1, PA vs → Well H1 a n → n + d2 ≤ 2 ^ 50 → ∀ Q : VK, (∀ p xs H2, H1 p = none → But a H1 H2 → Well H2 a (n + d2) → H2 p = some (.lst xs) → PB xs → Q (.ref p) H2) → ∀ E : XK, sp vs H1 Q E) : EvWL a (d1 + d2) (tCall sp [] E t) σ H PB := fun n H1 b w l Q q =>
  h n H1 b w (by omega) _ fun vs H2 b2 w2 pv => by
    rw [List.append_nil]
    exact hs vs (n + d1) H2 pv w2 (by omega) Q (fun p xs H3 hp b3 w3 h3 px => q p xs H3 (but_free b2 w2 hp) (b2.trans b3) (by rw [← Nat.add_assoc]; exact w3) h3 px) E
theorem ewu_mono {P1 : List V → Prop} (x : EvWU a d te σ H PA) (h : ∀ v, PA v → P1 v) : EvWU a d te σ H P1 := fun n H1 b w l Q q => x n H1 b w l Q fun p v H2 hp b2 w2 g2 k => q p v H2 hp b2 w2 g2 (h v k)
theorem ewa_mono {P1 : List V → Prop} (x : EvWA a d t σ H PA) (h : ∀ v, PA v → P1 v) : EvWA a d t σ H P1 := fun n H1 b w l Q q => x n H1 b w l Q fun vs H2 b2 w2 k => q vs H2 b2 w2 (h vs k)
theorem qw_setLast {xs : List V} {l : Addr} {P : V → Prop} (hl : H l = some (.lst xs)) (nl : l ≠ a) (h : EvW a d te σ H P) (ho : ∀ H1, Ev ta σ H1 (.ref l)) (hi : ∀ H1, Ev tb σ H1 (.int (-1))) (hj : 0 < xs.length) (w : Well H a n) (hn : n + d ≤ 2 ^ 50)
    (k : ∀ v H1, But a H H1 → Well H1 a (n + d) → P v → tz D σ (upd H1 l (.lst (xs.set (xs.length - 1) v)))) : tSeq (tAsg te (gSub ta tb rSetL)) tz D σ H := sw_setLast (D := { D with nx := tz D }) hl nl h ho hi hj w hn k
/-- xs[drawn] = drawn -/
theorem sw_setLW {xs : List V} {l : Addr} {P : V → Prop} {PI : Int → Prop} (hl : H l = some (.lst xs)) (nl : l ≠ a) (h : EvW a d1 te σ H P) (ho : ∀ H1, Ev ta σ H1 (.ref l)) (hi : EvW a d2 tb σ H (fun v => ∃ r, v = .int r ∧ PI r)) (hj : ∀ r, PI r → 0 ≤ r ∧ r < xs.length) (w : Well H a n) (hn : n + (d1 + d2) ≤ 2 ^ 50)
    (k : ∀ v (j : Nat) H1, But a H H1 → Well H1 a (n + (d1 + d2)) → P v → j < xs.length → D.nx σ (upd H1 l (.lst (xs.set j v)))) : tAsg te (gSub ta tb rSetL) D σ H :=
  h n H (But.refl a H) w (by omega) _ fun v H1 b1 w1 pv => ho H1 H1 (Ex.refl H1) _ fun H2 e2 => hi (n + d1) H2 (b1.trans (But.ex e2)) (w1.ex e2) (by omega) _ fun u H3 b3 w3 ⟨r, er, pr⟩ => by
    subst er
    obtain ⟨r0, r1⟩ := hj r pr
    obtain ⟨j, rfl⟩ : ∃ j : Nat, r = j := ⟨r.toNat, by omega⟩
    exact ⟨l, xs, (j : Int), j, rfl, rfl, b3 _ _ nl (e2 _ _ (b1 _ _ nl hl)), ixN_nat (by omega), k v j H3 ((b1.trans (But.ex e2)).trans b3) (by rw [← Nat.add_assoc]; exact w3) pv (by omega)⟩
/-- a list that is there against a new one -/
theorem ev_eqVL {p : Addr} {ns ms : List Int} (ha : Ev ta σ H (.ref p)) (h : SqL K H p (vi ns)) (hb : EvL tb σ H (vi ms)) : Ev (tOp (rEqD K) ta tb) σ H (.bl (decide (ns = ms))) := fun H1 e Q k =>
  ha H1 e _ fun H2 e2 => hb H2 (e.trans e2) _ fun p H3 hp e3 h3 => rv_eqL (ex_l ((e.trans e2).trans e3) h) (sq_of h3) H3 (Ex.refl H3) Q fun H4 e4 => k H4 ((e2.trans e3).trans e4)
/-- x, y = f(..), a pair -/
theorem q_tupP2 {i j : Nat} {P : V → Hp → Prop} (h : EvP te σ H P) (k : ∀ v H1, Ex H H1 → P v H1 → ∃ t x y, v = .ref t ∧ SqT K H1 t [x, y] ∧ tz D ((σ.set i (some x)).set j (some y)) H1) : tSeq (tAsg te (gTup K 2 (gCons (gName i) (gCons (gName j) gNil)))) tz D σ H :=
  h H (Ex.refl H) _ fun v H1 e1 p => by
    obtain ⟨t, x, y, rfl, ht, q⟩ := k v H1 e1 p
    exact ⟨t, _, rfl, ht, rfl, _, _, rfl, _, _, rfl, rfl, q⟩
end
/-! ### isinstance of a kept error, classes in a tuple -/
def rIsKT (K : PySem.W.Frag) : List V → Hp → VK → Prop := fun xs H Q => ∃ (a D tp : Addr) (d : Option Addr) (cs : List V) (us : List Value) (b : Bool), xs = [.ref a, .ref tp] ∧ H tp = some (.tup cs) ∧ Paired ClsV cs us ∧ H a = some (ExK (.ref D) d a) ∧ Dct H d ∧ ExcC K D ∧ PySem.W.kitAny K (.ref D) us = some b ∧ Q (.bl b) H
theorem call_isKT {X : Cx} {K : PySem.W.Frag} (hK : X.K = K) : CallR X (.builtin "isinstance") (rIsKT K) := by
  subst hK
  intro pins s σ H xs us Q I r h
  obtain ⟨a, D, tp, d, cs, ws, b, rfl, hT, k, ha, hd, ex, e, q⟩ := h
  obtain ⟨u1, u2, rfl, r1, r2⟩ := vals2 r
  cases (show u2 = Value.ref tp from r2)
  cases (show u1 = Value.ref a from r1)
  obtain ⟨oe, vs, hget, hz, hv⟩ := exk_at I.hok ha
  have hcl : (PySem.W.clsIn X.K D).isSome = true := by
    obtain ⟨cd, hc, _⟩ := PySem.W.any_some ex.hd
    rw [hc]
    rfl
  obtain ⟨od, J⟩ : ∃ od, PySem.W.InstAt s.heap a oe D od := by
    obtain ⟨oc, od, oda, osl⟩ := oe
    obtain ⟨h1, h2⟩ := hz
    dsimp only at h1 h2 hv
    subst h1 h2 hv
    cases od with
    | none => exact ⟨none, hget, rfl, rfl, trivial⟩
    | some dd =>
      obtain ⟨fs, hx⟩ := hd dd rfl
      have hx' : ObjOk X.prog X.w H s.heap dd (.xd fs) := I.hok dd _ hx
      obtain ⟨mA, hns, hr⟩ := hx'
      obtain ⟨od, ho, hl⟩ := lookIn_ns hns
      exact ⟨some od, hget, rfl, rfl, ho⟩
  obtain ⟨_, its, rv, o, h1, h2, n, h3⟩ := (show ObjOk X.prog X.w H s.heap tp (.tup cs) from I.hok tp _ hT)
  have e3 := ClsV.all k rv
  subst e3
  obtain ⟨oc, odd, dt, sl⟩ := o
  simp only at h2 h3
  subst h2 h3
  exact PySem.W.kia_tup (PySem.W.kitx_exc hcl ex.hg ex.hk ex.hs ex.ha ex.hn ex.ht ex.hm) I.kIn J h1 e (fun z => nomatch z) fun tk => ⟨.bl b, H, I.kept (t' := tk) fun _ _ z => z, rfl, q⟩
section
variable {K : PySem.W.Frag} {σ : L2.St} {H : Hp} {ta tc : TE} {a D : Addr} {d : Option Addr} {cs : List V} {us : List Value} {b : Bool}
theorem ev_isKT (h : Ev ta σ H (.ref a)) (hc : EvU tc σ H cs) (cl : Paired ClsV cs us) (ha : H a = some (ExK (.ref D) d a)) (hd : Dct H d) (ex : ExcC K D) (k : PySem.W.kitAny K (.ref D) us = some b) : Ev (tCB (rIsKT K) (tCons ta (tCons tc tNil))) σ H (.bl b) := fun H1 e Q q =>
  h H1 e _ fun H2 e2 => hc H2 (e.trans e2) _ fun p H3 hp e3 h3 => ⟨a, D, p, d, cs, us, b, rfl, h3, cl, ((e.trans e2).trans e3) _ _ ha, hd.ex ((e.trans e2).trans e3), ex, k, q H3 (e2.trans e3)⟩
end
end Bk
namespace Bk
open PySem PySem.Spec PyProof.Rows L2 Evl
theorem strOk_of (s : String) : PyData.strOk (Str.ofString s) = true := by
  rw [Str.ofString_eq_toList]
  unfold PyData.strOk
  refine Array.all_eq_true.mpr fun i hi => ?_
  simp
  have := (s.toList[i]'(by simpa using hi)).valid
  unfold UInt32.isValidChar Nat.isValidChar at this
  show (s.toList[i]'(by simpa using hi)).val.toNat < 1114112
  omega
theorem strOk_app {a b : Str} (h : PyData.strOk a = true) (h' : PyData.strOk b = true) : PyData.strOk (a ++ b) = true := by
  unfold PyData.strOk at *
  show ((a.cps ++ b.cps).all _) = true
  simp at *
  exact ⟨h, h'⟩
theorem strOk_from : ∀ (ts : List Str) (k : Nat) (acc : Str), PyData.strOk acc = true → (∀ t ∈ ts, PyData.strOk t = true) → PyData.strOk (textFrom k acc ts) = true
  | [], k, acc, h, _ => h
  | t :: r, k, acc, h, ht => by
    show PyData.strOk (textFrom (k + 1) (acc ++ (if k > 0 then ", " else "" : String) ++ t) r) = true
    exact strOk_from r (k + 1) _ (strOk_app (strOk_app h (strOk_of _)) (ht t List.mem_cons_self)) fun u hu => ht u (List.mem_cons_of_mem _ hu)
theorem strOk_list (ns : List Int) : PyData.strOk (PyData.list (di ns)).shown = true := by
  rw [PyData.shown]
  unfold listText
  refine strOk_app (strOk_from _ _ _ (strOk_of _) fun t ht => ?_) (strOk_of _)
  rw [shownAll_ints] at ht
  obtain ⟨i, _, rfl⟩ := List.mem_map.mp ht
  exact strOk_of _
/-! ### a list of pairs of numbers; lists of new lists -/
def Prs (H : Hp) (qs : List Addr) (ps : List (Int × Int)) : Prop := qs.length = ps.length ∧ ∀ (i : Nat) (q : Addr) (x : Int × Int), qs[i]? = some q → ps[i]? = some x → H q = some (.tup [.int x.1, .int x.2])
theorem Prs.ex {H H' : Hp} {qs : List Addr} {ps : List (Int × Int)} (h : Prs H qs ps) (e : Ex H H') : Prs H' qs ps := ⟨h.1, fun i q x a b => e _ _ (h.2 i q x a b)⟩
section
variable {K : PySem.W.Frag} {σ : L2.St} {H : Hp} {ta tb te tl : TE} {t : TA} {D : Ends} {tz : TS}
theorem q_asgPr {ta : TA} {i j n : Nat} {vs : List Nat} (f g : Nat → Int) (h : EvA ta σ H [.int (n : Int)]) (hn : n ≤ 40000) (hw : ∀ x, wipe ((wipe σ vs).set j (some x)) vs = wipe σ vs)
    (he : ∀ (m : Nat) H1, Ex H H1 → m < n → EvU te ((wipe σ vs).set j (some (.int (m : Int)))) H1 [.int (f m), .int (g m)])
    (k : ∀ p qs H1, H p = none → Ex H H1 → H1 p = some (.lst (qs.map .ref)) → Prs H1 qs ((List.range n).map fun m => (f m, g m)) → tz D (σ.set i (some (.ref p))) H1) : tSeq (tAsg (tLc (iRng1 ta) (gName j) tYes te vs) (gName i)) tz D σ H :=
  h H (Ex.refl H) _ fun H1 e1 => ⟨(n : Int), rfl, by omega, by omega, fun Dl hD => by
    refine lc_range (lo := 0) (n := (n : Int).toNat) (fun m H' => Ex H1 H' ∧ ∃ qs : List Addr, H' Dl = some (.lst (qs.map .ref)) ∧ Prs H' qs ((List.range m).map fun m => (f m, g m)) ∧ ∀ q ∈ qs, q ≠ Dl) ⟨Ex.new hD, [], upd_same, ⟨rfl, fun _ _ _ h => nomatch h⟩, fun _ h => nomatch h⟩ (fun m H' hm p => ?_) (fun H' p => ?_)
    · have e0 : (0 : Int) + (m : Int) = (m : Int) := Int.zero_add _
      show wipe ((wipe σ vs).set j (some (.int ((0 : Int) + (m : Int))))) vs = wipe σ vs ∧ tYes ((wipe σ vs).set j (some (.int ((0 : Int) + (m : Int))))) H' fun b H3 => if b = true then te ((wipe σ vs).set j (some (.int ((0 : Int) + (m : Int))))) H3 fun y H4 => ∃ acc, H4 Dl = some (.lst acc) ∧ acc.length < sizeLine ∧ _ else _
      rw [e0]
      obtain ⟨p1, qs, p2, p3, p4⟩ := p
      have hm' : m < n := by omega
      refine ⟨hw _, et_yes H' (Ex.refl H') _ fun H3 e3 => ?_⟩
      refine iteT (he m H3 ((e1.trans p1).trans e3) hm' H3 (Ex.refl H3) _ fun q H4 hq e4 g4 => ?_)
      have lq : qs.length = m := by rw [p3.1, List.length_map, List.length_range]
      have nq : q ≠ Dl := fun z => by
        rw [z, e3 _ _ p2] at hq
        cases hq
      refine ⟨qs.map .ref, e4 _ _ (e3 _ _ p2), sz_lt (by rw [List.length_map]; omega), ((p1.trans e3).trans e4).mut hD, qs ++ [q], by rw [upd_same, List.map_append]; rfl, ⟨by rw [List.length_append, List.length_map, List.length_range, lq]; rfl, fun i q' x a b => ?_⟩, fun q' hq' => ?_⟩
      · rw [List.range_succ, List.map_append] at b
        by_cases c : i < qs.length
        · rw [List.getElem?_append_left c] at a
          rw [List.getElem?_append_left (by rw [List.length_map, List.length_range]; omega)] at b
          rw [upd_ne (p4 _ (List.mem_of_getElem? a))]
          exact e4 _ _ (e3 _ _ (p3.2 i q' x a b))
        · rw [List.getElem?_append_right (by omega)] at a
          rw [List.getElem?_append_right (by rw [List.length_map, List.length_range]; omega), List.length_map, List.length_range] at b
          rw [lq] at a
          match hi : i - m, a, b with
          | 0, a, b =>
            cases a
            cases b
            rw [upd_ne nq]
            exact g4
          | z + 1, a, b => cases a
      · rcases List.mem_append.mp hq' with h | h
        · exact p4 q' h
        · rw [List.mem_singleton.mp h]
          exact nq
    · obtain ⟨p1, qs, p2, p3, p4⟩ := p
      rw [Int.toNat_natCast] at p3
      exact k Dl qs H' (fresh_back e1 hD) (e1.trans p1) p2 p3⟩
theorem el_lcPr {a : Addr} {qs : List Addr} {ps : List (Int × Int)} {i j : Nat} {vs : List Nat} (v : Nat → V) (h : Ev tl σ H (.ref a)) (hx : H a = some (.lst (qs.map .ref))) (hp : Prs H qs ps) (hz : ps.length ≤ 40000)
    (hw : ∀ x y, wipe (((wipe σ vs).set i (some x)).set j (some y)) vs = wipe σ vs) (he : ∀ (n : Nat) (x : Int × Int) H1, Ex H H1 → ps[n]? = some x → Ev te (((wipe σ vs).set i (some (.int x.1))).set j (some (.int x.2))) H1 (v n)) :
    EvL (tLc (iList K tl) (g2 K i j) tYes te vs) σ H (given ps.length (fun _ => true) v) := fun H0 e Q q => h H0 e _ fun H1 e1 => ⟨a, rfl, ⟨_, sq_of ((e.trans e1) _ _ hx)⟩, fun Dl hD =>
  lc_list (xs := qs.map .ref) (Cw H1 (fun _ => true) v Dl) ⟨hD, Ex.new hD, upd_same⟩ (fun i H' _ p => sq_of (p.2.1 _ _ ((e.trans e1) _ _ hx))) (fun n x H' hi p => by
    rw [List.getElem?_map] at hi
    cases g : qs[n]? with
    | none => rw [g] at hi; cases hi
    | some b =>
      rw [g] at hi
      cases hi
      have hl := (List.getElem?_eq_some_iff.mp g).1
      have hlr : n < ps.length := hp.1 ▸ hl
      have hR : ps[n]? = some ps[n] := List.getElem?_eq_getElem hlr
      have hb := p.2.1 _ _ ((e.trans e1) _ _ (hp.2 n b _ g hR))
      exact g2_go hb ⟨hw _ _, cw_turn p (by omega) (fun H3 _ Q q => q H3 (Ex.refl H3)) fun _ => he n _ H1 (e.trans e1) hR⟩)
    (fun H' p => q Dl H' (fresh_back e1 p.1) (e1.trans p.2.1) (by
      have := p.2.2
      rw [List.length_map, hp.1] at this
      exact this))⟩
/-- two new lists, one behind the other -/
def EvLL (t : TA) (σ : L2.St) (H : Hp) (xs ys : List V) : Prop := ∀ H1, Ex H H1 → ∀ Q : List V → Hp → Prop, (∀ p q H2, H1 p = none → H1 q = none → p ≠ q → Ex H1 H2 → H2 p = some (.lst xs) → H2 q = some (.lst ys) → Q [.ref p, .ref q] H2) → t σ H1 Q
theorem ea_LL {xs ys : List V} (h1 : EvL ta σ H xs) (h2 : EvL tb σ H ys) : EvLL (tCons ta (tCons tb tNil)) σ H xs ys := fun H1 e Q q =>
  h1 H1 e _ fun p H2 hp e2 g2 => h2 H2 (e.trans e2) _ fun r H3 hr e3 g3 => q p r H3 hp (fresh_back e2 hr) (ne_of_none g2 hr) (e2.trans e3) (e3 _ _ g2) g3
theorem q_asgLst2 {i : Nat} {xs ys : List V} (h : EvLL t σ H xs ys) (k : ∀ p q l H1, H p = none → H q = none → H l = none → p ≠ q → l ≠ p → l ≠ q → Ex H H1 → H1 p = some (.lst xs) → H1 q = some (.lst ys) → H1 l = some (.lst [.ref p, .ref q]) → tz D (σ.set i (some (.ref l))) H1) : tSeq (tAsg (tLst t) (gName i)) tz D σ H :=
  h H (Ex.refl H) _ fun p q H2 hp hq ne e2 g2 g3 => ⟨sz_of (by show 2 ≤ 100000; decide), fun l hl => k p q l _ hp hq (fresh_back e2 hl) ne (ne_of_none g2 hl).symm (ne_of_none g3 hl).symm (e2.trans (Ex.new hl)) (Ex.new hl _ _ g2) (Ex.new hl _ _ g3) upd_same⟩
theorem q_catLst2 {i : Nat} {l0 : Addr} {zs xs ys : List V} (ha : Ev ta σ H (.ref l0)) (h0 : H l0 = some (.lst zs)) (h : EvLL t σ H xs ys) (hz : zs.length ≤ 1000) (k : ∀ p q l H1, H p = none → H q = none → H l = none → p ≠ q → l ≠ p → l ≠ q → Ex H H1 → H1 p = some (.lst xs) → H1 q = some (.lst ys) → H1 l = some (.lst (zs ++ [.ref p, .ref q])) → tz D (σ.set i (some (.ref l))) H1) : tSeq (tAsg (tOp rCat ta (tLst t)) (gName i)) tz D σ H :=
  ha H (Ex.refl H) _ fun H1 e1 => h H1 e1 _ fun p q H2 hp hq ne e2 g2 g3 => ⟨sz_of (by show 2 ≤ 100000; decide), fun m hm => ⟨l0, m, zs, _, rfl, rfl, Ex.new hm _ _ (e2 _ _ (e1 _ _ h0)), upd_same, sz_of (by show zs.length + 2 ≤ 100000; omega), fun l hl => by
    have e3 := Ex.new (o := .lst [.ref p, .ref q]) hm
    have e4 := Ex.new (o := .lst (zs ++ [.ref p, .ref q])) hl
    have ee := (e2.trans e3).trans e4
    exact k p q l _ (fresh_back e1 hp) (fresh_back e1 hq) (fresh_back ((e1.trans e2).trans e3) hl) ne (ne_of_none (e3 _ _ g2) hl).symm (ne_of_none (e3 _ _ g3) hl).symm (e1.trans ee) ((e3.trans e4) _ _ g2) ((e3.trans e4) _ _ g3) upd_same⟩⟩
/-- two texts in a list, compared with the same -/
theorem ev_neSS {p : Addr} {x y : Str} (hx : PyData.strOk x = true) (hy : PyData.strOk y = true) (ha : EvL ta σ H [.str x, .str y]) (hb : Ev tb σ H (.ref p)) (h : SqL K H p [.str x, .str y]) : Ev (tOp (rNeD K) ta tb) σ H (.bl false) := fun H1 e Q k =>
  ha H1 e _ fun r H2 hr e2 h2 => hb H2 (e.trans e2) _ fun H3 e3 => ⟨.list [.str x, .str y], .list [.str x, .str y], .lst (sq_of (e3 _ _ h2)) (.cons (.str _) (.cons (.str _) .nil)), .lst (ex_l ((e.trans e2).trans e3) h) (.cons (.str _) (.cons (.str _) .nil)), by simp [SeqAt.shaped, PyData.canLay0, PyData.canLayAll0, PyData.depth, PyData.depthAll, hx, hy], by simp [SeqAt.shaped, PyData.canLay0, PyData.canLayAll0, PyData.depth, PyData.depthAll, hx, hy], by
    have e : PyData.eqv (.list [.str x, .str y]) (.list [.str x, .str y]) = true := by simp [PyData.eqv, PyData.eqvAll]
    rw [e]
    exact k H3 (e2.trans e3)⟩
theorem s_forLn' {a : Addr} {xs : List V} {tu : TS} {j : Nat} (h : Ev tl σ H (.ref a)) (hx : SqL K H a xs) (Pv : Nat → L2.St → Hp → Prop) (h0 : ∀ H1, Ex H H1 → Pv 0 σ H1) (hl : ∀ i σ' H', i ≤ xs.length → Pv i σ' H' → SqL K H' a xs)
    (hs : ∀ i x σ' H', xs[i]? = some x → Pv i σ' H' → tu { D with nx := Pv (i + 1), ct := Pv (i + 1), bk := tz D } (σ'.set j (some x)) H') (hd : ∀ σ' H', Pv xs.length σ' H' → tz D σ' H') : tSeq (tFor (iList K tl) (gName j) tu) tz D σ H :=
  s_forL (D := { D with nx := tz D }) h hx Pv h0 hl hs hd
end
end Bk
namespace Bk
open PySem PySem.Spec PyProof.Rows L2 Evl
section
variable {K : PySem.W.Frag} {σ : L2.St} {H : Hp} {ta tb tc te tl : TE} {a : Addr} {d d1 d2 d3 n : Nat} {tz : TS} {D : Ends}
theorem ewl_pure {xs : List V} {P : List V → Prop} (h : EvL te σ (hid a H) xs) (p : P xs) : EvWL a 0 te σ H P := fun n H1 b w l Q q =>
  h H1 (ex_hid b) Q fun r H2 hr e2 h2 => q r xs H2 hr (But.ex e2) (w.ex e2) h2 p
theorem ewl_catW {PA PB : List V → Prop} (ha : EvWL a d1 ta σ H PA) (hb : EvWL a d2 tb σ H PB) (hz : ∀ xs ys, PA xs → PB ys → xs.length + ys.length ≤ 100000) : EvWL a (d1 + d2) (tOp rCat ta tb) σ H (fun zs => ∃ xs ys, PA xs ∧ PB ys ∧ zs = xs ++ ys) := fun n H1 b w l Q q =>
  ha n H1 b w (by omega) _ fun p xs H2 hp b2 w2 h2 px => hb (n + d1) H2 (b.trans b2) w2 (by omega) _ fun r ys H3 hr b3 w3 h3 py => ⟨p, r, xs, ys, rfl, rfl, b3 _ _ (w.ne hp) h2, h3, sz_of (hz xs ys px py), fun l hl => q l _ _ (but_free (b2.trans b3) w3 hl) ((b2.trans b3).trans (But.new hl)) (by
    rw [← Nat.add_assoc]
    exact w3.ex (Ex.new hl)) upd_same ⟨xs, ys, px, py, rfl⟩⟩
theorem qw_par3V {i j l : Nat} {PA PB PC : V → Prop} (h1 : EvW a d1 ta σ H PA) (h2 : EvW a d2 tb σ H PB) (h3 : EvW a d3 tc σ H PC) (w : Well H a n) (hl : n + (d1 + d2 + d3) ≤ 2 ^ 50)
    (k : ∀ x y z H1, But a H H1 → Well H1 a (n + (d1 + d2 + d3)) → PA x → PB y → PC z →
      tz D (((σ.set i (some x)).set j (some y)).set l (some z)) H1) : tSeq (tPar3 i j l (tCons ta (tCons tb (tCons tc tNil)))) tz D σ H :=
  h1 n H (But.refl a H) w (by omega) _ fun x H2 b2 w2 pa => h2 (n + d1) H2 b2 w2 (by omega) _ fun y H3 b3 w3 pb => h3 (n + d1 + d2) H3 (b2.trans b3) w3 (by omega) _ fun z H4 b4 w4 pc => by
    refine ⟨_, _, _, rfl, k x y z H4 ((b2.trans b3).trans b4) ?_ pa pb pc⟩
    rw [show n + (d1 + d2 + d3) = n + d1 + d2 + d3 by omega]
    exact w4
theorem op_isB {X : Cx} : OpR X (compareOp .Is) (fun x y H Q => ∃ a b : Bool, x = V.bl a ∧ y = V.bl b ∧ Q (V.bl (a == b)) H) := by
  intro pins s σ H x y v u Q I rx ry h
  obtain ⟨a, b, rfl, rfl, q⟩ := h
  cases rx
  cases ry
  exact wpAny_is_plain (by rfl) (fin_bl I q (by cases a <;> cases b <;> rfl))
theorem op_notB {X : Cx} : OpR X (compareOp .IsNot) (fun x y H Q => ∃ a b : Bool, x = V.bl a ∧ y = V.bl b ∧ Q (V.bl (!(a == b))) H) := by
  intro pins s σ H x y v u Q I rx ry h
  obtain ⟨a, b, rfl, rfl, q⟩ := h
  cases rx
  cases ry
  exact wpAny_isNot_plain (by rfl) (fin_bl I q (by cases a <;> cases b <;> rfl))
theorem rv_isB {x y : Bool} : RV (fun x y H Q => ∃ a b : Bool, x = V.bl a ∧ y = V.bl b ∧ Q (V.bl (a == b)) H) (.bl x) (.bl y) H (.bl (x == y)) := fun H1 e Q q => ⟨x, y, rfl, rfl, q H1 (Ex.refl H1)⟩
theorem rv_notB {x y : Bool} : RV (fun x y H Q => ∃ a b : Bool, x = V.bl a ∧ y = V.bl b ∧ Q (V.bl (!(a == b))) H) (.bl x) (.bl y) H (.bl (!(x == y))) := fun H1 e Q q => ⟨x, y, rfl, rfl, q H1 (Ex.refl H1)⟩
theorem ewu_pure {xs : List V} {P : List V → Prop} (h : EvU te σ (hid a H) xs) (p : P xs) : EvWU a 0 te σ H P := fun n H1 b w l Q q =>
  h H1 (ex_hid b) Q fun r H2 hr e2 h2 => q r xs H2 hr (But.ex e2) (w.ex e2) h2 p
theorem qw_par3UVV {i j l : Nat} {PA : List V → Prop} {PB PC : V → Prop} (h1 : EvWU a d1 ta σ H PA) (h2 : EvW a d2 tb σ H PB) (h3 : EvW a d3 tc σ H PC) (w : Well H a n) (hl : n + (d1 + d2 + d3) ≤ 2 ^ 50)
    (k : ∀ p xs y z H1, H p = none → But a H H1 → Well H1 a (n + (d1 + d2 + d3)) → H1 p = some (.tup xs) → PA xs → PB y → PC z →
      tz D (((σ.set i (some (.ref p))).set j (some y)).set l (some z)) H1) : tSeq (tPar3 i j l (tCons ta (tCons tb (tCons tc tNil)))) tz D σ H :=
  h1 n H (But.refl a H) w (by omega) _ fun p xs H2 hp b2 w2 g2 pa => h2 (n + d1) H2 b2 w2 (by omega) _ fun y H3 b3 w3 pb => h3 (n + d1 + d2) H3 (b2.trans b3) w3 (by omega) _ fun z H4 b4 w4 pc => by
    refine ⟨_, _, _, rfl, k p xs y z H4 hp ((b2.trans b3).trans b4) ?_ (b4 _ _ (w.ne hp) (b3 _ _ (w.ne hp) g2)) pa pb pc⟩
    rw [show n + (d1 + d2 + d3) = n + d1 + d2 + d3 by omega]
    exact w4
/-- f(new list, new tuple), a new list -/
theorem el_callLU {sp : Sp} {E : XK} {xs ys zs : List V} (h : EvL ta σ H xs) (h2 : EvU tb σ H ys) (hs : ∀ p q H1, Ex H H1 → H1 p = some (.lst xs) → H1 q = some (.tup ys) → SpL sp [.ref p, .ref q] H1 zs) : EvL (tCall sp [] E (tCons ta (tCons tb tNil))) σ H zs := fun H1 e Q q =>
  h H1 e _ fun p H2 hp e2 g2 => h2 H2 (e.trans e2) _ fun p' H3 hp' e3 g3 => hs p p' H3 ((e.trans e2).trans e3) (e3 _ _ g2) g3 H3 (Ex.refl H3) Q (fun r H4 hr e4 h4 => q r H4 (fresh_back (e2.trans e3) hr) ((e2.trans e3).trans e4) h4) E
/-- f(x, drawn tuple) -/
theorem ew_callVU {sp : Sp} {E : XK} {x v : V} {PU : List V → Prop} (h1 : Ev ta σ (hid a H) x) (h : EvWU a d te σ H PU) (hs : ∀ p xs H1, But a H H1 → H1 p = some (.tup xs) → PU xs → SpV sp [x, .ref p] H1 v) : EvW a d (tCall sp [] E (tCons ta (tCons te tNil))) σ H (fun z => z = v) := fun n H1 bt w l Q q =>
  h1 H1 (ex_hid bt) _ fun H2 e2 => h n H2 (bt.trans (But.ex e2)) (w.ex e2) l _ fun p xs H3 hp b3 w3 g3 px => hs p xs H3 ((bt.trans (But.ex e2)).trans b3) g3 px H3 (Ex.refl H3) Q (fun H4 e4 => q v H4 (((But.ex e2).trans b3).trans (But.ex e4)) (w3.ex e4) rfl) E
theorem ew_andT {P : V → Prop} (h1 : Ev ta σ (hid a H) (.bl true)) (h2 : EvW a d tb σ H P) : EvW a d (tAndV ta tb) σ H P := fun n H1 bt w l Q q =>
  h1 H1 (ex_hid bt) _ fun H2 e2 => ⟨true, rfl, iteT (h2 n H2 (bt.trans (But.ex e2)) (w.ex e2) l Q fun v H3 b3 w3 p => q v H3 ((But.ex e2).trans b3) w3 p)⟩
/-- [(f(k), g(k)) for k in range(n) if test][0], where one k alone passes -/
theorem ep_lcP0 {ta : TA} {tt : TT} {t0 : TE} {j n M : Nat} {vs : List Nat} {x y : V} (b : Nat → Bool) (h : EvA ta σ H [.int (n : Int)]) (hn : n ≤ 40000) (hM : M < n) (hb : ∀ m, m < n → (b m = true ↔ m = M)) (hw : ∀ x, wipe ((wipe σ vs).set j (some x)) vs = wipe σ vs)
    (ht : ∀ (m : Nat) H1, Ex H H1 → m < n → EvT tt ((wipe σ vs).set j (some (.int (m : Int)))) H1 (b m)) (he : ∀ H1, Ex H H1 → EvU te ((wipe σ vs).set j (some (.int (M : Int)))) H1 [x, y]) (hz : ∀ H1, Ev t0 σ H1 (.int 0)) :
    EvP (tOp (rIxL K) (tLc (iRng1 ta) (gName j) tt te vs) t0) σ H (fun v H1 => ∃ t, v = .ref t ∧ SqT K H1 t [x, y]) := fun H0 e Q q =>
  h H0 e _ fun H1 e1 => ⟨(n : Int), rfl, by omega, by omega, fun Dl hD => by
    refine lc_range (lo := 0) (n := (n : Int).toNat) (fun m H' => Ex H1 H' ∧ ((m ≤ M ∧ H' Dl = some (.lst [])) ∨ (M < m ∧ ∃ q, q ≠ Dl ∧ H' Dl = some (.lst [.ref q]) ∧ H' q = some (.tup [x, y])))) ⟨Ex.new hD, .inl ⟨Nat.zero_le _, upd_same⟩⟩ (fun m H' hm p => ?_) (fun H' p => ?_)
    · have e0 : (0 : Int) + (m : Int) = (m : Int) := Int.zero_add _
      show wipe ((wipe σ vs).set j (some (.int ((0 : Int) + (m : Int))))) vs = wipe σ vs ∧ tt ((wipe σ vs).set j (some (.int ((0 : Int) + (m : Int))))) H' fun b H3 => if b = true then te ((wipe σ vs).set j (some (.int ((0 : Int) + (m : Int))))) H3 fun y H4 => ∃ acc, H4 Dl = some (.lst acc) ∧ acc.length < sizeLine ∧ _ else _
      rw [e0]
      obtain ⟨p1, p2⟩ := p
      have hm' : m < n := by omega
      refine ⟨hw _, ht m H' ((e.trans e1).trans p1) hm' H' (Ex.refl H') _ fun H3 e3 => ?_⟩
      by_cases c : m = M
      · subst c
        rw [if_pos ((hb m hm').mpr rfl)]
        rcases p2 with ⟨_, g⟩ | ⟨z, _⟩
        · refine he H3 (((e.trans e1).trans p1).trans e3) H3 (Ex.refl H3) _ fun q' H4 hq e4 g4 => ?_
          have nq : q' ≠ Dl := fun z => by
            rw [z, e3 _ _ g] at hq
            cases hq
          exact ⟨[], e4 _ _ (e3 _ _ g), sz_lt (by show 0 < 100000; decide), ((p1.trans e3).trans e4).mut hD, .inr ⟨Nat.lt_succ_self _, q', nq, upd_same, by rw [upd_ne nq]; exact g4⟩⟩
        · exact absurd z (Nat.lt_irrefl _)
      · rw [if_neg fun z => c ((hb m hm').mp z)]
        refine ⟨p1.trans e3, ?_⟩
        rcases p2 with ⟨z, g⟩ | ⟨z, q', nq, g, g'⟩
        · exact .inl ⟨by omega, e3 _ _ g⟩
        · exact .inr ⟨by omega, q', nq, e3 _ _ g, e3 _ _ g'⟩
    · obtain ⟨p1, p2⟩ := p
      rcases p2 with ⟨z, _⟩ | ⟨z, q', nq, g, g'⟩
      · omega
      · exact hz H' H' (Ex.refl H') _ fun H2 e2 => rv_ixL (sq_of (e2 _ _ g)) rfl H2 (Ex.refl H2) Q fun H3 e3 => q _ H3 (e1.trans ((p1.trans e2).trans e3)) ⟨q', rfl, st_of (e3 _ _ (e2 _ _ g'))⟩⟩
end
end Bk
namespace Bk
open PySem PySem.Spec PyProof.Rows L2 Evl
/-! ### own classes: methods, making, properties, len and in, where the stack holds no repr -/
theorem Rm.in1 {k : Nat} {A : Around} (r : Rm (k + 1) A) : Rm k A.in1 := ⟨r.rm.in1, r.gd⟩
theorem Rm.make {k : Nat} {A : Around} (r : Rm (k + 1) A) (C : Addr) (us : List Value) (kw : List (Str × Value)) : Rm k (A.under (.builtin "type.__call__" ⟨.ref C :: us, kw⟩)) := ⟨r.rm.make C us kw, by
  have e : (A.under (.builtin "type.__call__" ⟨.ref C :: us, kw⟩)).guards = A.guards := by
    first
      | rfl
      | simp [Around.under, Code.guards, Code.isGuard, guardIds, pushGuards]
  rw [e]
  exact r.gd⟩
section
variable {X : Cx} {CX : CXT} {k : Nat} {f C p g a : Addr} {fd : FuncData} {ps : List Str} {sp : Sp} {E : XK} {x m : Str} {pos apos ppos : Pos} {e o : Expr} {es : List Expr} {ta : TE} {t : TA}
/-- o.m(e, ..) -/
theorem pe_methG {pl : Sem Bool} (he : PE X o ta) (c : Cls X.K C) (hm : Meth X.K C m f) (F : FnG X.prog X.w X.K X.mg X.base CX k f fd ps sp) (hr : Rm k X.A) (hb : Binds X.K fd ps []) (hx : Passes CX X E) (ha : PA X (e :: es) t)
    (hst : starEach (e :: es) X.env = (false, eval e X.env) :: starEach es X.env := by rfl) (hpl : (backTo pos (starEach es X.env)).any (·.1) = false := by rfl)
    (ht : eval (.Call (.Attribute o m apos) (e :: es) [] pos) X.env = (do
      let ov ← eval o X.env
      standAt apos.atName
      let (f, first) ← holding [ov] (getMethod ov m pl)
      callWith pos f first (backTo pos (starEach (e :: es) X.env)) (backToKw pos (keywordEach [] X.env))) := by rfl) :
    PE X (.Call (.Attribute o m apos) (e :: es) [] pos) (tMeth C m sp [] E ta t) := by
  refine ⟨fun pins s σ H Q I h => ?_⟩
  refine PySem.W.methodCall_KW (pl := pl) (thn (he.run pins s σ H _ I h) fun u s1 ⟨x, H1, I1, rx, a, dx, fs, ex, ea, l, q⟩ => ?_) ht
  subst ex
  obtain rfl : u = Value.ref a := rx
  refine getmeth_ok I1 ea c hm l ?_
  refine PySem.W.callWith_K (first := [.ref a]) (h₀ := X.base) I.ok.mod.kin hm.kp (thn (ha.run pos pins s1 σ H1 _ I1 q) fun us s2 ⟨vs, H2, I2, r, q2⟩ => ⟨I2.kIn, ?_⟩) hst hpl
  exact runG (us := .ref a :: us) (vs := .ref a :: vs) F hr hb .nil hx I2 (.cons rfl r) q2
/-- o.m() -/
theorem pe_methG0 {pl : Sem Bool} (he : PE X o ta) (c : Cls X.K C) (hm : Meth X.K C m f) (F : FnG X.prog X.w X.K X.mg X.base CX k f fd ps sp) (hr : Rm k X.A) (hb : Binds X.K fd ps []) (hx : Passes CX X E)
    (ht : eval (.Call (.Attribute o m apos) [] [] pos) X.env = (do
      let ov ← eval o X.env
      standAt apos.atName
      let (f, first) ← holding [ov] (getMethod ov m pl)
      callWith pos f first (backTo pos (starEach [] X.env)) (backToKw pos (keywordEach [] X.env))) := by rfl) :
    PE X (.Call (.Attribute o m apos) [] [] pos) (tMeth C m sp [] E ta tNil) := by
  refine ⟨fun pins s σ H Q I h => ?_⟩
  refine PySem.W.methodCall_KW (pl := pl) (thn (he.run pins s σ H _ I h) fun u s1 ⟨x, H1, I1, rx, a, dx, fs, ex, ea, l, q⟩ => ?_) ht
  subst ex
  obtain rfl : u = Value.ref a := rx
  refine getmeth_ok I1 ea c hm l ?_
  exact PySem.W.callWith_K0 (first := [.ref a]) I1.kIn hm.kp (runG (us := [.ref a]) (vs := [.ref a]) F hr hb .nil hx I1 (.cons rfl .nil) q)
/-- C() -/
theorem pe_makeG0 (M : Mk X.K C f) (F : FnG X.prog X.w X.K X.mg X.base CX k f fd ps sp) (hr : Rm (k + 1) X.A) (hg : Gl X x) (hm : X.mg x = some (.ref C)) (hb : Binds X.K fd ps []) (hx : Passes CX X E)
    (hdb : (x == ("__debug__" : Str)) = false := by decide) : PE X (.Call (.Name x ppos) [] [] pos) (tMake C sp [] E tNil) := by
  refine ⟨fun pins s σ H Q I h => ?_⟩
  refine wpAny_Call_Name_kw (ld_glob I hg hm ?_ hdb)
  refine PySem.W.callWith_K0 I.kIn M.kp ?_
  have hq := h (s.heap.objs.size + 1) s.heap.objs.size (I.hok.fresh (Nat.le_succ _)) (I.hok.fresh (Nat.le_refl _)) (Nat.ne_of_lt (Nat.lt_succ_self _))
  have I2 := Inv.made (C := C) I
  have hl : ([Value.ref (s.heap.objs.size + 1)] ++ ([] : List Value)).length = ps.length := (F.len _ _ _ _ hq : [V.ref (s.heap.objs.size + 1)].length = ps.length)
  refine wpAny_call (make_map (f := f) I.kIn M.makes M.init (beq_iff_eq.mp M.fn) (codeAny_mono (F.run _ X.stack _ _ ⟨[Value.ref (s.heap.objs.size + 1)], []⟩ [Value.ref (s.heap.objs.size + 1)] [V.ref (s.heap.objs.size + 1)] _ E (hr.make C [] [])
    (I2.env0.make C [] []) (hb _ [Value.ref (s.heap.objs.size + 1)] I2.kIn hl) (.cons rfl .nil) hq) fun r s' hq' => ?_))
  cases r with
  | error e => exact hx pins σ _ _ e s' I2 hq'
  | ok fl =>
    cases fl with
    | ret u =>
      obtain ⟨v, H', I3, rv, ev, q3⟩ := I2.after hq'
      subst ev
      exact ⟨rv, ⟨V.ref (s.heap.objs.size + 1), H', I3, rfl, q3⟩⟩
    | next => exact False.elim hq'
    | brk => exact False.elim hq'
    | cont => exact False.elim hq'
/-- o.f, a property -/
theorem pe_propG (he : PE X e ta) (c : Cls X.K C) (hp : PropOf X.K C x p g) (F : FnG X.prog X.w X.K X.mg X.base CX k g fd ps sp) (hr : Rm (k + 1) X.A) (hb : Binds X.K fd ps []) (hx : Passes CX X.nox E)
    (hab : attributeBase e x X.env (eval e X.env) = eval e X.env) : PE X (.Attribute e x pos) (tProp C sp [] E ta) := by
  refine ⟨fun pins s σ H Q I0 h => ?_⟩
  refine attr_of hab (thn (he.run pins s σ H _ I0 h) fun u s1 ⟨y, H1, I, rx, a, dx, fs, ex, ea, h⟩ => ?_)
  subst ex
  obtain rfl : u = Value.ref a := rx
  obtain ⟨mA, O, _, _, _, _⟩ := ins_get I.hok ea
  obtain ⟨od, J, _⟩ := O.look
  obtain ⟨rest, hrec⟩ := hp.rec_
  have I1 := I.tok (s1.toks + 1)
  have hl : ([Value.ref a] ++ ([] : List Value)).length = ps.length := (F.len _ _ _ _ h : [V.ref a].length = ps.length)
  have hc : (PySem.W.clsIn X.K C).isSome = true := by
    obtain ⟨cd, hc, _⟩ := PySem.W.any_some c.hd
    rw [hc]
    rfl
  refine PySem.W.get_bind I.kIn J (PySem.W.plainGet_of (c.get x)).1 (PySem.W.findObj_data hc hp.at_ hp.get hp.tak) (PySem.W.plainGet_of (c.get x)).2 (wpAny_call (PySem.W.prop_get (s := { s1 with toks := s1.toks + 1 }) I.kIn hrec ?_))
  refine codeAny_mono (F.run X.A.in1 X.stack { s1 with toks := s1.toks + 1 } H1 ⟨[.ref a], []⟩ [.ref a] [.ref a] Q E hr.in1 I1.env0.in1 (hb _ [.ref a] I1.kIn hl) (.cons rfl .nil) h) fun r s' hq => ?_
  cases r with
  | error er => exact False.elim (hx pins σ H1 { s1 with toks := s1.toks + 1 } er s' (I1.wish _) hq)
  | ok fl =>
    cases fl with
    | ret u =>
      obtain ⟨v, H', I3, rv, q3⟩ := I1.after hq
      show wpAny _ _ (handedOut u) _ _ _
      rw [PySem.W.handedOut_of (handed_of rv)]
      exact wpAny_pure ⟨v, H', I3, rv, q3⟩
    | next => exact False.elim hq
    | brk => exact False.elim hq
    | cont => exact False.elim hq
/-- len(o) by an own __len__ -/
def rLenO (C : Addr) (sp : Sp) (E : XK) : List V → Hp → VK → Prop := fun xs H Q => ∃ a dx fs, xs = [V.ref a] ∧ H a = some (.ins C dx fs) ∧ sp [.ref a] H (fun v H2 => ∃ n : Nat, v = .int (n : Int) ∧ n < 2 ^ 62 ∧ Q (.int (n : Int)) H2) E
theorem call_lenO (hs : Meth X.K C "__len__" f) (F : FnG X.prog X.w X.K X.mg X.base CX k f fd ps sp) (hr : Rm (k + 1) X.A) (hb : Binds X.K fd ps []) (hx : Passes CX X E) : CallR X (.builtin "len") (rLenO C sp E) := by
  intro pins s σ H xs us Q I r h
  obtain ⟨a, dx, fs, rfl, ea, h⟩ := h
  obtain ⟨u, rfl, ru⟩ := vals1 r
  cases (show u = Value.ref a from ru)
  obtain ⟨mA, O, _, _, _, _⟩ := ins_get I.hok ea
  obtain ⟨od, J, _⟩ := O.look
  obtain ⟨m, hF⟩ := I.fr
  have hl : ([Value.ref a] ++ ([] : List Value)).length = ps.length := (F.len _ _ _ _ h : [V.ref a].length = ps.length)
  refine PySem.W.len_K hF I.ok.mod.kin J hs.at_ hs.fn (wpAny_call (codeAny_mono (F.run X.A.in1 X.stack s H ⟨[.ref a], []⟩ [.ref a] [.ref a] _ E hr.in1 I.env0.in1 (hb s [.ref a] I.kIn hl) (.cons rfl .nil) h) fun r s' hq => ?_))
  have z := endG I hx r s' hq
  cases r with
  | error e => exact z
  | ok fl =>
    cases fl with
    | ret u =>
      obtain ⟨v, H', I3, rv, n, rfl, hn, q⟩ := z
      obtain ⟨tk, rfl⟩ := rv
      exact ⟨⟨by omega, by omega⟩, V.int (n : Int), H', I3.tok _, ⟨_, rfl⟩, q⟩
    | _ => exact z.elim
/-- x in o by an own __contains__ -/
def rInO (C : Addr) (sp : Sp) (E : XK) (neg : Bool) : R2 := fun x y H Q => ∃ a dx fs, y = V.ref a ∧ H a = some (.ins C dx fs) ∧ sp [.ref a, x] H (fun v H2 => ∃ b : Bool, v = .bl b ∧ Q (.bl (if neg then !b else b)) H2) E
theorem in_run {pins : List (Addr × Obj)} {s : Shared} {σ : L2.St} {H : Hp} {x : V} {u : Value} {Q : VK} {dx : Addr} {fs : List (Str × V)} {R : Bool → Shared → Prop} (F : FnG X.prog X.w X.K X.mg X.base CX k f fd ps sp) (hr : Rm k X.A) (hb : Binds X.K fd ps []) (hx : Passes CX X E)
    (I : Inv X pins σ H s) (ru : RelV x u) (h : sp [.ref a, x] H Q E) (hq : ∀ v s', EP X pins σ Q v s' → ∃ b, v = .bool b ∧ R b s') : wpAny (model X.prog X.w) X.A (call (.ref f) [.ref a, u]) (fun r s' => wpAny (model X.prog X.w) X.A (truthy r) R X.xe s') X.xe s := by
  have hl : ([Value.ref a, u] ++ ([] : List Value)).length = ps.length := (F.len _ _ _ _ h : [V.ref a, x].length = ps.length)
  refine wpAny_call (codeAny_mono (F.run X.A X.stack s H ⟨[.ref a, u], []⟩ [.ref a, u] [.ref a, x] _ E hr I.env0 (hb s [.ref a, u] I.kIn hl) (.cons rfl (.cons ru .nil)) h) fun r s' hz => ?_)
  have z := endG I hx r s' hz
  cases r with
  | error e => exact z
  | ok fl =>
    cases fl with
    | ret v =>
      obtain ⟨b, rfl, w⟩ := hq v s' z
      exact wpAny_truthy_bool w
    | _ => exact z.elim
theorem op_inO (hs : Meth X.K C "__contains__" f) (F : FnG X.prog X.w X.K X.mg X.base CX k f fd ps sp) (hr : Rm k X.A) (hb : Binds X.K fd ps []) (hx : Passes CX X E) : OpR X (compareOp .In) (rInO C sp E false) := by
  intro pins s σ H x y v u Q I rx ry h
  obtain ⟨a, dx, fs, rfl, ea, h⟩ := h
  cases (show u = Value.ref a from ry)
  obtain ⟨mA, O, _, _, _, _⟩ := ins_get I.hok ea
  obtain ⟨od, J, _⟩ := O.look
  obtain ⟨m, hF⟩ := I.fr
  refine PySem.W.in_K hF I.ok.mod.kin J hs.at_ hs.fn (in_run (dx := dx) (fs := fs) F hr hb hx I rx h fun w s' z => ?_)
  obtain ⟨v, H', I3, rv, b, rfl, q⟩ := z
  cases rv
  exact ⟨b, rfl, V.bl b, H', I3, rfl, q⟩
theorem op_notInO (hs : Meth X.K C "__contains__" f) (F : FnG X.prog X.w X.K X.mg X.base CX k f fd ps sp) (hr : Rm k X.A) (hb : Binds X.K fd ps []) (hx : Passes CX X E) : OpR X (compareOp .NotIn) (rInO C sp E true) := by
  intro pins s σ H x y v u Q I rx ry h
  obtain ⟨a, dx, fs, rfl, ea, h⟩ := h
  cases (show u = Value.ref a from ry)
  obtain ⟨mA, O, _, _, _, _⟩ := ins_get I.hok ea
  obtain ⟨od, J, _⟩ := O.look
  obtain ⟨m, hF⟩ := I.fr
  refine PySem.W.notIn_K hF I.ok.mod.kin J hs.at_ hs.fn (in_run (dx := dx) (fs := fs) F hr hb hx I rx h fun w s' z => ?_)
  obtain ⟨v, H', I3, rv, b, rfl, q⟩ := z
  cases rv
  exact ⟨b, rfl, V.bl (!b), H', I3, rfl, q⟩
end
end Bk
namespace Bk
open PySem PySem.Spec PyProof.Rows L2 Evl
/-! ### readings: own classes -/
section
variable {K : PySem.W.Frag} {σ : L2.St} {H : Hp} {ta tb te tv : TE} {t : TA} {D : Ends} {tz : TS} {p C dx : Addr} {fs : List (Str × V)} {f m : Str} {v x z : V} {vs xs : List V} {sp : Sp} {E : XK} {P : V → Hp → Prop}
theorem ev_fld (h : Ev ta σ H (.ref p)) (hp : H p = some (.ins C dx fs)) (c : Cls K C) (n : NoAttr K C f) (l : fs.lookup f = some v) : Ev (tFld K ta f) σ H v := fun H1 e Q q =>
  h H1 e _ fun H2 e2 => ⟨p, C, dx, fs, v, rfl, (e.trans e2) _ _ hp, c, n, l, q H2 e2⟩
theorem ev_meth (h : Ev ta σ H (.ref p)) (hp : H p = some (.ins C dx fs)) (l : fs.lookup m = none) (ha : EvA t σ H vs) (hs : SpV sp (.ref p :: (vs ++ [])) H z) : Ev (tMeth C m sp [] E ta t) σ H z := fun H1 e Q q =>
  h H1 e _ fun H2 e2 => ⟨p, dx, fs, rfl, (e.trans e2) _ _ hp, l, ha H2 (e.trans e2) _ fun H3 e3 => hs H3 ((e.trans e2).trans e3) Q (fun H4 e4 => q H4 ((e2.trans e3).trans e4)) E⟩
theorem el_meth (h : Ev ta σ H (.ref p)) (hp : H p = some (.ins C dx fs)) (l : fs.lookup m = none) (ha : EvA t σ H vs) (hs : SpL sp (.ref p :: (vs ++ [])) H xs) : EvL (tMeth C m sp [] E ta t) σ H xs := fun H1 e Q q =>
  h H1 e _ fun H2 e2 => ⟨p, dx, fs, rfl, (e.trans e2) _ _ hp, l, ha H2 (e.trans e2) _ fun H3 e3 => hs H3 ((e.trans e2).trans e3) Q (fun r H4 hr e4 h4 => q r H4 (fresh_back (e2.trans e3) hr) ((e2.trans e3).trans e4) h4) E⟩
theorem eu_meth (h : Ev ta σ H (.ref p)) (hp : H p = some (.ins C dx fs)) (l : fs.lookup m = none) (ha : EvA t σ H vs) (hs : SpU sp (.ref p :: (vs ++ [])) H xs) : EvU (tMeth C m sp [] E ta t) σ H xs := fun H1 e Q q =>
  h H1 e _ fun H2 e2 => ⟨p, dx, fs, rfl, (e.trans e2) _ _ hp, l, ha H2 (e.trans e2) _ fun H3 e3 => hs H3 ((e.trans e2).trans e3) Q (fun r H4 hr e4 h4 => q r H4 (fresh_back (e2.trans e3) hr) ((e2.trans e3).trans e4) h4) E⟩
theorem s_meth (h : Ev ta σ H (.ref p)) (hp : H p = some (.ins C dx fs)) (l : fs.lookup m = none) (ha : EvA t σ H vs) (k : ∀ H1, Ex H H1 → sp (.ref p :: (vs ++ [])) H1 (fun _ H2 => D.nx σ H2) E) : tDrop (tMeth C m sp [] E ta t) D σ H :=
  h H (Ex.refl H) _ fun H2 e2 => ⟨p, dx, fs, rfl, e2 _ _ hp, l, ha H2 e2 _ fun H3 e3 => k H3 (e2.trans e3)⟩
theorem q_meth (h : Ev ta σ H (.ref p)) (hp : H p = some (.ins C dx fs)) (l : fs.lookup m = none) (ha : EvA t σ H vs) (k : ∀ H1, Ex H H1 → sp (.ref p :: (vs ++ [])) H1 (fun _ H2 => tz D σ H2) E) : tSeq (tDrop (tMeth C m sp [] E ta t)) tz D σ H :=
  s_meth (D := { D with nx := tz D }) h hp l ha k
theorem ev_prop (h : Ev ta σ H (.ref p)) (hp : H p = some (.ins C dx fs)) (hs : SpV sp [.ref p] H z) : Ev (tProp C sp [] E ta) σ H z := fun H1 e Q q =>
  h H1 e _ fun H2 e2 => ⟨p, dx, fs, rfl, (e.trans e2) _ _ hp, hs H2 (e.trans e2) Q (fun H3 e3 => q H3 (e2.trans e3)) E⟩
theorem ev_lenO {n : Nat} (h : Ev ta σ H (.ref p)) (hp : H p = some (.ins C dx fs)) (hs : SpV sp [.ref p] H (.int (n : Int))) (hn : n < 2 ^ 62) : Ev (tCB (rLenO C sp E) (tCons ta tNil)) σ H (.int (n : Int)) := fun H1 e Q q =>
  h H1 e _ fun H2 e2 => ⟨p, dx, fs, rfl, (e.trans e2) _ _ hp, hs H2 (e.trans e2) _ (fun H3 e3 => ⟨n, rfl, hn, q H3 (e2.trans e3)⟩) E⟩
theorem rv_inO {b : Bool} (hp : H p = some (.ins C dx fs)) (hs : SpV sp [.ref p, x] H (.bl b)) : RV (rInO C sp E false) x (.ref p) H (.bl b) := fun H1 e Q q =>
  ⟨p, dx, fs, rfl, e _ _ hp, hs H1 e _ (fun H2 e2 => ⟨b, rfl, q H2 e2⟩) E⟩
theorem rv_notInO {b : Bool} (hp : H p = some (.ins C dx fs)) (hs : SpV sp [.ref p, x] H (.bl b)) : RV (rInO C sp E true) x (.ref p) H (.bl (!b)) := fun H1 e Q q =>
  ⟨p, dx, fs, rfl, e _ _ hp, hs H1 e _ (fun H2 e2 => ⟨b, rfl, q H2 e2⟩) E⟩
theorem q_tupU {i j : Nat} {y : V} (h : EvU te σ H [x, y]) (k : ∀ H1, Ex H H1 → tz D ((σ.set i (some x)).set j (some y)) H1) : tSeq (tAsg te (gTup K 2 (gCons (gName i) (gCons (gName j) gNil)))) tz D σ H :=
  q_tupP2 (P := fun v H1 => ∃ t, v = .ref t ∧ SqT K H1 t [x, y]) (ep_U h fun p H1 H2 _ _ _ g => ⟨p, rfl, st_of g⟩) fun v H1 e1 ⟨t, ev, ht⟩ => ⟨t, x, y, ev, ht, k H1 e1⟩
theorem s_fldL (hv : EvL tv σ H xs) (ha : ∀ H1, Ex H H1 → Ev ta σ H1 (.ref p)) (hp : H p = some (.ins C dx fs)) (c : Cls K C) (n : NoAttr K C f) (hl : fs.length < 1000)
    (k : ∀ l H1, H l = none → Ex H H1 → H1 l = some (.lst xs) → D.nx σ (upd H1 p (.ins C dx (putF f (.ref l) fs)))) : sFld K ta tv f D σ H :=
  hv H (Ex.refl H) _ fun l H1 hl0 e1 h1 => ha H1 e1 H1 (Ex.refl H1) _ fun H2 e2 => ⟨p, C, dx, fs, rfl, (e1.trans e2) _ _ hp, c, n, hl, k l H2 hl0 (e1.trans e2) (e2 _ _ h1)⟩
theorem q_fldL (hv : EvL tv σ H xs) (ha : ∀ H1, Ex H H1 → Ev ta σ H1 (.ref p)) (hp : H p = some (.ins C dx fs)) (c : Cls K C) (n : NoAttr K C f) (hl : fs.length < 1000)
    (k : ∀ l H1, H l = none → Ex H H1 → H1 l = some (.lst xs) → tz D σ (upd H1 p (.ins C dx (putF f (.ref l) fs)))) : tSeq (sFld K ta tv f) tz D σ H :=
  s_fldL (D := { D with nx := tz D }) hv ha hp c n hl k
end
/-! repr of a number; more of drawn lists -/
section
variable {K : PySem.W.Frag} {σ : L2.St} {H : Hp} {ta tb te tl : TE} {a : Addr} {d d1 d2 n : Nat} {D : Ends} {tz : TS} {sp : Sp} {E : XK}
theorem ev_reprI {i : Int} (h : Ev te σ H (.int i)) (hz : i.natAbs.log2 < 1920) : Ev (tCB (fun xs H Q => ∃ i, xs = [V.int i] ∧ i.natAbs.log2 < 1920 ∧ Q (.str (toString i)) H) (tCons te tNil)) σ H (.str (toString i)) := fun H1 e Q q =>
  h H1 e _ fun H2 e2 => ⟨i, rfl, hz, q H2 e2⟩
theorem ew_intB (h : EvW a d te σ H (fun v => ∃ b, v = .bl b)) : EvW a d (tCB (fun xs H Q => (∃ i, xs = [V.int i] ∧ Q (.int i) H) ∨ ∃ k, xs = [V.bl k] ∧ Q (.int (if k then 1 else 0)) H) (tCons te tNil)) σ H (fun v => ∃ r, v = .int r ∧ (r = 0 ∨ r = 1)) := fun n H1 b w l Q q =>
  h n H1 b w l _ fun v H2 b2 w2 ⟨c, e⟩ => .inr ⟨c, by rw [e], q _ H2 b2 w2 (by
    cases c with
    | true => exact ⟨1, rfl, .inr rfl⟩
    | false => exact ⟨0, rfl, .inl rfl⟩)⟩
theorem ew_callL {v : V} {PL : List V → Prop} (h : EvWL a d te σ H PL) (hs : ∀ p xs H1, H1 p = some (.lst xs) → PL xs → SpV sp [.ref p] H1 v) : EvW a d (tCall sp [] E (tCons te tNil)) σ H (fun z => z = v) := fun n H1 bt w l Q q =>
  h n H1 bt w l _ fun p xs H2 hp b2 w2 g2 px => hs p xs H2 g2 px H2 (Ex.refl H2) Q (fun H3 e3 => q v H3 (b2.trans (But.ex e3)) (w2.ex e3) rfl) E
theorem q_asgRaw {i : Nat} (h : te σ H fun v H1 => tz D (σ.set i (some v)) H1) : tSeq (tAsg te (gName i)) tz D σ H := h
end
/-! ### what is kept but at some places -/
def Off (S : List Addr) (H H' : Hp) : Prop := ∀ b o, b ∉ S → H b = some o → H' b = some o
theorem Off.ex {S : List Addr} {H H' : Hp} (e : Ex H H') : Off S H H' := fun b o _ h => e b o h
theorem Off.but {a : Addr} {S : List Addr} {H H' : Hp} (e : But a H H') (h : a ∈ S) : Off S H H' := fun b o n g => e b o (fun z => n (z ▸ h)) g
theorem Off.trans {S : List Addr} {H H1 H2 : Hp} (x : Off S H H1) (y : Off S H1 H2) : Off S H H2 := fun b o n h => y b o n (x b o n h)
theorem Off.more {S S' : List Addr} {H H' : Hp} (x : Off S H H') (h : ∀ a ∈ S, a ∈ S') : Off S' H H' := fun b o n g => x b o (fun z => n (h b z)) g
theorem Off.back {S : List Addr} {H0 H H' : Hp} (e : Ex H0 H) (x : Off S H H') (h : ∀ a ∈ S, H0 a = none) : Ex H0 H' := fun b o g => x b o (fun z => by
  have := h b z
  rw [this] at g
  cases g) (e b o g)
theorem Off.less {S S' : List Addr} {H H' : Hp} (x : Off S H H') (h : ∀ a ∈ S, a ∉ S' → H a = none) : Off S' H H' := fun b o n g => x b o (fun z => by
  have := h b z n
  rw [this] at g
  cases g) g
end Bk
namespace Bk
open PySem PySem.Spec PyProof.Rows L2 Evl
/-- o.m(..), what is raised is wished for at the caller's slots -/
def tMethS (C : Addr) (m : Str) (sp : Sp) (E : L2.St → XK) (ta : TE) (t : TA) : TE := fun σ H Q => ta σ H fun x H1 => ∃ a dx fs, x = .ref a ∧ H1 a = some (.ins C dx fs) ∧ fs.lookup m = none ∧ t σ H1 fun vs H2 => sp (x :: vs) H2 Q (E σ)
section
variable {X : Cx} {CX : CXT} {k : Nat} {f C : Addr} {fd : FuncData} {ps ks : List Str} {sp : Sp} {E : L2.St → XK} {E0 : XK} {m : Str} {pos apos : Pos} {e o : Expr} {es : List Expr} {kws : List Keyword} {ta : TE} {t tk : TA}
theorem pe_methGS {pl : Sem Bool} (he : PE X o ta) (c : Cls X.K C) (hm : Meth X.K C m f) (F : FnG X.prog X.w X.K X.mg X.base CX k f fd ps sp) (hr : Rm k X.A) (hb : Binds X.K fd ps []) (hx : ∀ σ, PassesAt CX X σ (E σ)) (ha : PA X (e :: es) t)
    (hst : starEach (e :: es) X.env = (false, eval e X.env) :: starEach es X.env := by rfl) (hpl : (backTo pos (starEach es X.env)).any (·.1) = false := by rfl)
    (ht : eval (.Call (.Attribute o m apos) (e :: es) [] pos) X.env = (do
      let ov ← eval o X.env
      standAt apos.atName
      let (f, first) ← holding [ov] (getMethod ov m pl)
      callWith pos f first (backTo pos (starEach (e :: es) X.env)) (backToKw pos (keywordEach [] X.env))) := by rfl) :
    PE X (.Call (.Attribute o m apos) (e :: es) [] pos) (tMethS C m sp E ta t) := by
  refine ⟨fun pins s σ H Q I h => ?_⟩
  refine PySem.W.methodCall_KW (pl := pl) (thn (he.run pins s σ H _ I h) fun u s1 ⟨x, H1, I1, rx, a, dx, fs, ex, ea, l, q⟩ => ?_) ht
  subst ex
  obtain rfl : u = Value.ref a := rx
  refine getmeth_ok I1 ea c hm l ?_
  refine PySem.W.callWith_K (first := [.ref a]) (h₀ := X.base) I.ok.mod.kin hm.kp (thn (ha.run pos pins s1 σ H1 _ I1 q) fun us s2 ⟨vs, H2, I2, r, q2⟩ => ⟨I2.kIn, ?_⟩) hst hpl
  exact runGS (us := .ref a :: us) (vs := .ref a :: vs) F hr hb (hx σ) I2 (.cons rfl r) q2
theorem pe_methGS0 {pl : Sem Bool} (he : PE X o ta) (c : Cls X.K C) (hm : Meth X.K C m f) (F : FnG X.prog X.w X.K X.mg X.base CX k f fd ps sp) (hr : Rm k X.A) (hb : Binds X.K fd ps []) (hx : ∀ σ, PassesAt CX X σ (E σ))
    (ht : eval (.Call (.Attribute o m apos) [] [] pos) X.env = (do
      let ov ← eval o X.env
      standAt apos.atName
      let (f, first) ← holding [ov] (getMethod ov m pl)
      callWith pos f first (backTo pos (starEach [] X.env)) (backToKw pos (keywordEach [] X.env))) := by rfl) :
    PE X (.Call (.Attribute o m apos) [] [] pos) (tMethS C m sp E ta tNil) := by
  refine ⟨fun pins s σ H Q I h => ?_⟩
  refine PySem.W.methodCall_KW (pl := pl) (thn (he.run pins s σ H _ I h) fun u s1 ⟨x, H1, I1, rx, a, dx, fs, ex, ea, l, q⟩ => ?_) ht
  subst ex
  obtain rfl : u = Value.ref a := rx
  refine getmeth_ok I1 ea c hm l ?_
  exact PySem.W.callWith_K0 (first := [.ref a]) I1.kIn hm.kp (runGS (us := [.ref a]) (vs := [.ref a]) F hr hb (hx σ) I1 (.cons rfl .nil) q)
theorem runGKS {pins : List (Addr × Obj)} {σ : L2.St} {H : Hp} {s : Shared} {Q : VK} {us ws : List Value} {vs zs : List V} {g : List Value → List Value → List Value} {gV : List V → List V → List V} (F : FnG X.prog X.w X.K X.mg X.base CX k f fd ps sp) (hr : Rm k X.A) (hb : KBinds X.K fd ps ks g gV) (hx : PassesAt CX X σ (E σ))
    (I : Inv X pins σ H s) (r : Vals vs us) (rz : Vals zs ws) (h : sp (gV vs zs) H Q (E σ)) : wpAny (model X.prog X.w) X.A (call (.ref f) us (ks.zip ws)) (EP X pins σ Q) X.xe s := by
  have rv := hb.rel r rz
  have hl : (g us ws).length = ps.length := rv.length.symm.trans (F.len _ _ _ _ h)
  refine wpAny_call (codeAny_mono (F.run X.A X.stack s H ⟨us, ks.zip ws⟩ (g us ws) (gV vs zs) Q (E σ) hr I.env0 (hb.to s us ws I.kIn hl) rv h) fun r s' hq => ?_)
  cases r with
  | error e => exact hx pins H s e s' I hq
  | ok fl =>
    cases fl with
    | ret u => exact I.after hq
    | next => exact hq.elim
    | brk => exact hq.elim
    | cont => exact hq.elim
/-- o.m(k = e) in a try -/
def tMethKS (C : Addr) (m : Str) (sp : Sp) (gV : List V → List V → List V) (E : L2.St → XK) (ta : TE) (tk : TA) : TE := fun σ H Q => ta σ H fun x H1 => ∃ a dx fs, x = .ref a ∧ H1 a = some (.ins C dx fs) ∧ fs.lookup m = none ∧ tk σ H1 fun zs H2 => sp (gV [x] zs) H2 Q (E σ)
theorem pe_methGSK {pl : Sem Bool} {g : List Value → List Value → List Value} {gV : List V → List V → List V} (he : PE X o ta) (c : Cls X.K C) (hm : Meth X.K C m f) (F : FnG X.prog X.w X.K X.mg X.base CX k f fd ps sp) (hr : Rm k X.A) (hb : KBinds X.K fd ps ks g gV) (hx : ∀ σ, PassesAt CX X σ (E σ)) (hkw : PK X kws tk)
    (hall : (backToKw pos (keywordEach kws X.env)).all (·.1.isSome) = true := by rfl) (hks : (backToKw pos (keywordEach kws X.env)).filterMap (·.1) = ks := by rfl)
    (hpl : ((backTo pos (starEach [] X.env)).any (·.1) || (backToKw pos (keywordEach kws X.env)).any (·.1.isNone)) = false := by rfl)
    (ht : eval (.Call (.Attribute o m apos) [] kws pos) X.env = (do
      let ov ← eval o X.env
      standAt apos.atName
      let (f, first) ← holding [ov] (getMethod ov m pl)
      callWith pos f first (backTo pos (starEach [] X.env)) (backToKw pos (keywordEach kws X.env))) := by rfl) :
    PE X (.Call (.Attribute o m apos) [] kws pos) (tMethKS C m sp gV E ta tk) := by
  refine ⟨fun pins s σ H Q I h => ?_⟩
  refine PySem.W.methodCall_KW (pl := pl) (thn (he.run pins s σ H _ I h) fun u s1 ⟨x, H1, I1, rx, a, dx, fs, ex, ea, l, q⟩ => ?_) ht
  subst ex
  obtain rfl : u = Value.ref a := rx
  refine getmeth_ok I1 ea c hm l ?_
  refine PySem.W.callWith_KW0 (first := [.ref a]) (h₀ := X.base) I.ok.mod.kin hm.kp hall (thn (hkw.run pos pins s1 σ H1 _ I1 q) ?_) hpl
  intro ws s2 ⟨zs, H2, I2, rz, q2⟩
  refine ⟨I2.kIn, ?_⟩
  rw [hks]
  exact runGKS (us := [.ref a]) (vs := [.ref a]) F hr hb (hx σ) I2 (.cons rfl .nil) rz q2
end
section
variable {K : PySem.W.Frag} {σ : L2.St} {H : Hp} {ta te : TE} {t tk : TA} {D : Ends} {tz : TS} {p C dx : Addr} {fs : List (Str × V)} {m : Str} {v : V} {vs zs : List V} {sp : Sp} {E : L2.St → XK} {i : Nat}
/-- x = o.m(..) in a try -/
theorem s_asgMS (h : Ev ta σ H (.ref p)) (hp : H p = some (.ins C dx fs)) (l : fs.lookup m = none) (ha : EvA t σ H vs) (k : ∀ H1, Ex H H1 → sp (.ref p :: vs) H1 (fun v H2 => D.nx (σ.set i (some v)) H2) (E σ)) : tAsg (tMethS C m sp E ta t) (gName i) D σ H :=
  h H (Ex.refl H) _ fun H2 e2 => ⟨p, dx, fs, rfl, e2 _ _ hp, l, ha H2 e2 _ fun H3 e3 => k H3 (e2.trans e3)⟩
theorem s_asgMKS {gV : List V → List V → List V} (h : Ev ta σ H (.ref p)) (hp : H p = some (.ins C dx fs)) (l : fs.lookup m = none) (ha : EvA tk σ H zs) (k : ∀ H1, Ex H H1 → sp (gV [.ref p] zs) H1 (fun v H2 => D.nx (σ.set i (some v)) H2) (E σ)) : tAsg (tMethKS C m sp gV E ta tk) (gName i) D σ H :=
  h H (Ex.refl H) _ fun H2 e2 => ⟨p, dx, fs, rfl, e2 _ _ hp, l, ha H2 e2 _ fun H3 e3 => k H3 (e2.trans e3)⟩
theorem s_methS (h : Ev ta σ H (.ref p)) (hp : H p = some (.ins C dx fs)) (l : fs.lookup m = none) (ha : EvA t σ H vs) (k : ∀ H1, Ex H H1 → sp (.ref p :: vs) H1 (fun _ H2 => D.nx σ H2) (E σ)) : tDrop (tMethS C m sp E ta t) D σ H :=
  h H (Ex.refl H) _ fun H2 e2 => ⟨p, dx, fs, rfl, e2 _ _ hp, l, ha H2 e2 _ fun H3 e3 => k H3 (e2.trans e3)⟩
theorem rv_addS {x y : Str} (h : x.length + y.length ≤ 100000) : RV (fun x y H Q => ∃ i j, x = V.str i ∧ y = V.str j ∧ i.length + j.length ≤ sizeLine ∧ Q (.str (i ++ j)) H) (.str x) (.str y) H (.str (x ++ y)) := fun H1 e Q q =>
  ⟨x, y, rfl, rfl, sz_of h, q H1 (Ex.refl H1)⟩
theorem ev_strI {i : Int} (h : Ev te σ H (.int i)) (hz : i.natAbs.log2 < 1920) : Ev (tCB (fun xs H Q => ∃ i, xs = [V.int i] ∧ i.natAbs.log2 < 1920 ∧ Q (.str (toString i)) H) (tCons te tNil)) σ H (.str (toString i)) := fun H1 e Q q =>
  h H1 e _ fun H2 e2 => ⟨i, rfl, hz, q H2 e2⟩
theorem str_len {i : Int} (h : i.natAbs.log2 < 1900) : (toString i : Str).length ≤ 1901 := by
  have := shown_le (k := 1900) (ns := [i]) (by decide) (fun n hn => by rw [List.mem_singleton.mp hn]; exact h) (toString i : Str) (by
    rw [shownAll_ints]
    exact List.mem_singleton.mpr rfl)
  exact this
/-- xs.pop() -/
theorem s_pop {l : Addr} {xs : List V} {y : V} (h : Ev ta σ H (.ref l)) (hl : H l = some (.lst (xs ++ [y]))) (k : ∀ H1, Ex H H1 → D.nx σ (upd H1 l (.lst xs))) : tDrop (tBM0 K "list" rPop ta) D σ H :=
  h H (Ex.refl H) _ fun H2 e2 => ⟨.inl ⟨rfl, xs ++ [y], sq_of (e2 _ _ hl)⟩, l, xs ++ [y], y, rfl, rfl, e2 _ _ hl, by simp, by rw [List.dropLast_concat]; exact k H2 e2⟩
theorem q_pop {l : Addr} {xs : List V} {y : V} (h : Ev ta σ H (.ref l)) (hl : H l = some (.lst (xs ++ [y]))) (k : ∀ H1, Ex H H1 → tz D σ (upd H1 l (.lst xs))) : tSeq (tDrop (tBM0 K "list" rPop ta)) tz D σ H :=
  s_pop (D := { D with nx := tz D }) h hl k
end
end Bk
namespace Bk
open PySem PySem.Spec PyProof.Rows L2 Evl
/-! ### values of other kinds -/
/-- a value that is no integer: None, a truth, a text, a list, a tuple, a dict -/
def OddV (H : Hp) (x : V) : Prop := x = .non ∨ (∃ b, x = .bl b) ∨ (∃ s, x = .str s) ∨ (∃ a xs, x = .ref a ∧ H a = some (.lst xs)) ∨ (∃ a xs, x = .ref a ∧ H a = some (.tup xs)) ∨ (∃ a kvs, x = .ref a ∧ H a = some (.dK kvs))
theorem OddV.ex {H H' : Hp} {x : V} (h : OddV H x) (e : Ex H H') : OddV H' x := by
  rcases h with h | h | h | ⟨a, xs, h, g⟩ | ⟨a, xs, h, g⟩ | ⟨a, xs, h, g⟩
  · exact .inl h
  · exact .inr (.inl h)
  · exact .inr (.inr (.inl h))
  · exact .inr (.inr (.inr (.inl ⟨a, xs, h, e _ _ g⟩)))
  · exact .inr (.inr (.inr (.inr (.inl ⟨a, xs, h, e _ _ g⟩))))
  · exact .inr (.inr (.inr (.inr (.inr ⟨a, xs, h, e _ _ g⟩))))
theorem kb_none_int : kitB "NoneType" "int" = some false := by decide +kernel
theorem kb_bool_int : kitB "bool" "int" = some true := by decide +kernel
theorem kb_bool_bool : kitB "bool" "bool" = some true := by decide +kernel
theorem kb_str_int : kitB "str" "int" = some false := by decide +kernel
theorem kb_list_int : kitB "list" "int" = some false := by decide +kernel
theorem kb_tuple_int : kitB "tuple" "int" = some false := by decide +kernel
theorem kb_dict_int : kitB "dict" "int" = some false := by decide +kernel
section
variable {K : PySem.W.Frag} {σ : L2.St} {H : Hp} {ta tb te tl : TE} {t tr : TA} {D : Ends} {tu tz : TS} {v : V} {P : V → Hp → Prop} {PL : List V → Hp → Prop} {n : Nat}
/-- isinstance(x, int) and not isinstance(x, bool), of a value of another kind -/
theorem ev_odd {x : V} (h : Ev ta σ H x) (h2 : Ev tb σ H x) (o : OddV H x) : Ev (tAndV (tCB (rIsi K) (tCons ta (tCons (tC (.ty "int")) tNil))) (tNotV (tCB (rIsi K) (tCons tb (tCons (tC (.ty "bool")) tNil))))) σ H (.bl false) := by
  rcases o with rfl | ⟨b, rfl⟩ | ⟨s, rfl⟩ | ⟨a, xs, rfl, g⟩ | ⟨a, xs, rfl, g⟩ | ⟨a, kvs, rfl, g⟩
  · exact ev_andV (a := false) (b := false) (ev_isi h (fun _ _ => .base .non) kb_none_int) (fun h => nomatch h)
  · exact ev_andV (a := true) (b := false) (ev_isi h (fun _ _ => .base (.bl b)) kb_bool_int) fun _ => ev_notV (ev_isi h2 (fun _ _ => .base (.bl b)) kb_bool_bool)
  · exact ev_andV (a := false) (b := false) (ev_isi h (fun _ _ => .base (.str s)) kb_str_int) (fun h => nomatch h)
  · exact ev_andV (a := false) (b := false) (ev_isi h (fun _ e => .base (.lst (e _ _ g))) kb_list_int) (fun h => nomatch h)
  · exact ev_andV (a := false) (b := false) (ev_isi h (fun _ e => .base (.tup (e _ _ g))) kb_tuple_int) (fun h => nomatch h)
  · exact ev_andV (a := false) (b := false) (ev_isi h (fun _ e => .base (.dK (e _ _ g))) kb_dict_int) (fun h => nomatch h)
theorem ep_V (h : Ev te σ H v) (k : ∀ H1, Ex H H1 → P v H1) : EvP te σ H P := fun H1 e Q q => h H1 e _ fun H2 e2 => q v H2 e2 (k H2 (e.trans e2))
theorem ep_D (k : ∀ p H1, H1 p = some (.dK []) → P (.ref p) H1) : EvP tDNewK σ H P := fun H1 e Q q p hp => q (.ref p) _ (Ex.new hp) (k p _ upd_same)
theorem ed_V {d : PyData} (h : Ev te σ H v) (hd : ∀ H1, Dp K H1 v d) : EvD K te σ H d := ep_V h fun H1 _ => hd H1
theorem sho_bool (b : Bool) : Sho (.bool b) := by cases b <;> exact ⟨rfl, rfl, by decide, by rw [sizeLine_eq]; decide⟩
/-- arguments, with what is known of them -/
def EvAP (t : TA) (σ : L2.St) (H : Hp) (P : List V → Hp → Prop) : Prop := ∀ H1, Ex H H1 → ∀ Q : List V → Hp → Prop, (∀ vs H2, Ex H1 H2 → P vs H2 → Q vs H2) → t σ H1 Q
def AllP (P : V → Hp → Prop) (n : Nat) (vs : List V) (H : Hp) : Prop := vs.length = n ∧ ∀ v ∈ vs, P v H
theorem ap_nil : EvAP tNil σ H (AllP P 0) := fun H1 e Q q => q [] H1 (Ex.refl H1) ⟨rfl, fun _ h => nomatch h⟩
theorem ap_cons (mono : ∀ v H1 H2, Ex H1 H2 → P v H1 → P v H2) (h : EvP te σ H P) (hr : EvAP tr σ H (AllP P n)) : EvAP (tCons te tr) σ H (AllP P (n + 1)) := fun H1 e Q q =>
  h H1 e _ fun x H2 e2 px => hr H2 (e.trans e2) _ fun xs H3 e3 ⟨l, pxs⟩ => q (x :: xs) H3 (e2.trans e3) ⟨by rw [List.length_cons, l], fun v hv => by
    rcases List.mem_cons.mp hv with rfl | hv
    · exact mono _ _ _ e3 px
    · exact pxs v hv⟩
/-- a new list, with what is known of its items -/
def EvLP (te : TE) (σ : L2.St) (H : Hp) (P : List V → Hp → Prop) : Prop := ∀ H1, Ex H H1 → ∀ Q : VK, (∀ p xs H2, H1 p = none → Ex H1 H2 → H2 p = some (.lst xs) → P xs H2 → Q (.ref p) H2) → te σ H1 Q
theorem el_lstP (mono : ∀ v H1 H2, Ex H1 H2 → P v H1 → P v H2) (h : EvAP t σ H (AllP P n)) (hn : n ≤ 100000) : EvLP (tLst t) σ H (AllP P n) := fun H1 e Q q =>
  h H1 e _ fun xs H2 e2 ⟨l, px⟩ => ⟨sz_of (by omega), fun p hp => q p xs _ (fresh_back e2 hp) (e2.trans (Ex.new hp)) upd_same ⟨l, fun v hv => mono _ _ _ (Ex.new hp) (px v hv)⟩⟩
theorem s_forLP {j : Nat} (h : EvLP tl σ H PL) (Pv : Addr → List V → Nat → L2.St → Hp → Prop) (h0 : ∀ p xs H1, H p = none → Ex H H1 → H1 p = some (.lst xs) → PL xs H1 → Pv p xs 0 σ H1)
    (hl : ∀ p xs i σ' H', i ≤ xs.length → Pv p xs i σ' H' → SqL K H' p xs)
    (hs : ∀ p xs i x σ' H', xs[i]? = some x → Pv p xs i σ' H' → tu { D with nx := Pv p xs (i + 1), ct := Pv p xs (i + 1), bk := D.nx } (σ'.set j (some x)) H') (hd : ∀ p xs σ' H', Pv p xs xs.length σ' H' → D.nx σ' H') : tFor (iList K tl) (gName j) tu D σ H :=
  h H (Ex.refl H) _ fun p xs H1 hp e h1 px => ⟨p, rfl, ⟨xs, sq_of h1⟩, for_list (Pv p xs) (h0 p xs H1 hp e h1 px) (hl p xs) (fun i x σ' H' hx k => hs p xs i x σ' H' hx k) (hd p xs)⟩
theorem q_forLP {j : Nat} (h : EvLP tl σ H PL) (Pv : Addr → List V → Nat → L2.St → Hp → Prop) (h0 : ∀ p xs H1, H p = none → Ex H H1 → H1 p = some (.lst xs) → PL xs H1 → Pv p xs 0 σ H1)
    (hl : ∀ p xs i σ' H', i ≤ xs.length → Pv p xs i σ' H' → SqL K H' p xs)
    (hs : ∀ p xs i x σ' H', xs[i]? = some x → Pv p xs i σ' H' → tu { D with nx := Pv p xs (i + 1), ct := Pv p xs (i + 1), bk := tz D } (σ'.set j (some x)) H') (hd : ∀ p xs σ' H', Pv p xs xs.length σ' H' → tz D σ' H') : tSeq (tFor (iList K tl) (gName j) tu) tz D σ H :=
  s_forLP (D := { D with nx := tz D }) h Pv h0 hl hs hd
theorem oddmono : ∀ (v : V) (H1 H2 : Hp), Ex H1 H2 → OddV H1 v → OddV H2 v := fun _ _ _ e h => h.ex e
theorem eo_V (h : Ev te σ H v) (k : v = .non ∨ (∃ b, v = .bl b) ∨ (∃ s, v = .str s)) : EvP te σ H (fun v H1 => OddV H1 v) := ep_V h fun H1 _ => by
  rcases k with k | k | k
  · exact .inl k
  · exact .inr (.inl k)
  · exact .inr (.inr (.inl k))
theorem eo_L {xs : List V} (h : EvL te σ H xs) : EvP te σ H (fun v H1 => OddV H1 v) := ep_L h fun p H1 H2 _ _ _ g => .inr (.inr (.inr (.inl ⟨p, xs, rfl, g⟩)))
theorem eo_U {xs : List V} (h : EvU te σ H xs) : EvP te σ H (fun v H1 => OddV H1 v) := ep_U h fun p H1 H2 _ _ _ g => .inr (.inr (.inr (.inr (.inl ⟨p, xs, rfl, g⟩))))
theorem eo_D : EvP tDNewK σ H (fun v H1 => OddV H1 v) := ep_D fun p H1 g => .inr (.inr (.inr (.inr (.inr ⟨p, [], rfl, g⟩))))
end
end Bk
namespace Bk
open PySem PySem.Spec PyProof.Rows L2 Evl
/-! ### counting and finding flat items -/
def rCountF (K : PySem.W.Frag) : V → List V → Hp → VK → Prop := fun x xs H Q => ∃ (a : Addr) (ys : List V) (y : V), x = V.ref a ∧ xs = [y] ∧ SqL K H a ys ∧ flatV y = true ∧ ys.all flatV = true ∧ Q (.int ((ys.countP fun z => eqV z y : Nat) : Int)) H
theorem countP_flat {y : V} {ys : List V} {us : List Value} (h : Vals ys us) (f : ys.all flatV = true) : us.countP (eqU y) = ys.countP fun z => eqV z y := by
  induction h with
  | nil => rfl
  | cons r rs ih =>
    rw [List.all_cons, Bool.and_eq_true] at f
    rw [List.countP_cons, List.countP_cons, ih f.2, eqU_of r f.1]
theorem mt_countF {X : Cx} {K : PySem.W.Frag} (hK : X.K = K) : MtR X "list.count" (rCountF K) := by
  subst hK
  intro pins s σ H x xs v us Q I rx rxs h
  obtain ⟨a, ys, y, rfl, rfl, hs, fy, fys, q⟩ := h
  cases rx
  cases rxs with
  | cons ry rt =>
    rename_i uy ut
    cases rt
    obtain ⟨its, rv, ⟨⟨cls, dd, data, sl⟩, n, ho, hc, hdn, hd⟩, hlen⟩ := I.list hs
    simp only at hc hd
    subst hc hd
    refine call_meets PySem.F.slot_list_count ⟨_, ho, rfl⟩ PySem.F.entry_list_count (PySem.F.args_list_count_2 _ _) (SeqAt.list_countAt a its.toArray n dd sl uy (eqU y)) ⟨ho, fun u' hu' => mem_eqAt ry fy rv fys u' (by simpa using hu'), ?_⟩
    rw [show its.toArray.toList = its from rfl, countP_flat rv fys]
    exact ⟨.int _, H, I.tok _, ⟨_, rfl⟩, q⟩
theorem mt_indexK {X : Cx} {K : PySem.W.Frag} (hK : X.K = K) : MtR X "list.index" (rIndex K) := by
  subst hK
  exact mt_index
section
variable {K : PySem.W.Frag} {σ : L2.St} {H : Hp} {ta tb : TE}
def vb (bs : List Bool) : List V := bs.map .bl
theorem vb_flat : ∀ bs : List Bool, (vb bs).all flatV = true
  | [] => rfl
  | _ :: r => by
    show (flatV _ && (vb r).all flatV) = true
    rw [vb_flat r]
    rfl
theorem vb_count : ∀ bs : List Bool, ((vb bs).countP fun z => eqV z (.bl true)) = bs.count true
  | [] => rfl
  | b :: r => by
    show ((V.bl b :: vb r).countP fun z => eqV z (.bl true)) = _
    rw [List.countP_cons, List.count_cons, vb_count r]
    cases b <;> rfl
theorem ev_countB {l : Addr} {bs : List Bool} (ha : Ev ta σ H (.ref l)) (h : H l = some (.lst (vb bs))) (hb : Ev tb σ H (.bl true)) : Ev (tBM K "list" (rCountF K) ta (tCons tb tNil)) σ H (.int ((bs.count true : Nat) : Int)) := fun H1 e Q q =>
  ha H1 e _ fun H2 e2 => ⟨Or.inl ⟨rfl, _, sq_of ((e.trans e2) _ _ h)⟩, hb H2 (e.trans e2) _ fun H3 e3 => ⟨l, vb bs, .bl true, rfl, rfl, sq_of (((e.trans e2).trans e3) _ _ h), rfl, vb_flat bs, by
    rw [vb_count]
    exact q H3 (e2.trans e3)⟩⟩
theorem ev_indexB {l : Addr} {bs : List Bool} {j : Nat} (ha : Ev ta σ H (.ref l)) (h : H l = some (.lst (vb bs))) (hb : Ev tb σ H (.bl true)) (hj : bs[j]? = some true) (hn : ∀ m, m < j → bs[m]? = some false) : Ev (tBM K "list" (rIndex K) ta (tCons tb tNil)) σ H (.int (j : Nat)) := fun H1 e Q q =>
  ha H1 e _ fun H2 e2 => ⟨Or.inl ⟨rfl, _, sq_of ((e.trans e2) _ _ h)⟩, hb H2 (e.trans e2) _ fun H3 e3 => ⟨l, vb bs, .bl true, j, .bl true, rfl, rfl, sq_of (((e.trans e2).trans e3) _ _ h), rfl, vb_flat bs, by
    show (bs.map V.bl)[j]? = _
    rw [List.getElem?_map, hj]
    rfl, rfl, fun m z hm hz => by
    have hz : (bs.map V.bl)[m]? = some z := hz
    rw [List.getElem?_map, hn m hm] at hz
    cases hz
    rfl, q H3 (e2.trans e3)⟩⟩
end
section
variable {K : PySem.W.Frag} {σ : L2.St} {H : Hp} {ta tb te tl : TE} {t : TA} {D : Ends} {tu tz : TS} {P : V → Hp → Prop} {PL : List V → Hp → Prop} {n : Nat}
/-- [(y, x, z) for x in a new list] -/
theorem el_lcTup {j : Nat} {vs : List Nat} {y z : V} (mono : ∀ v H1 H2, Ex H1 H2 → P v H1 → P v H2) (h : EvLP tl σ H (AllP P n)) (hn : n ≤ 40000) (hw : ∀ x, wipe ((wipe σ vs).set j (some x)) vs = wipe σ vs) (he : ∀ x H1, Ex H H1 → EvU te ((wipe σ vs).set j (some x)) H1 [y, x, z]) :
    EvLP (tLc (iList K tl) (gName j) tYes te vs) σ H (fun ys H2 => ys.length = n ∧ ∀ v ∈ ys, ∃ (t : Addr) (x : V), v = .ref t ∧ H2 t = some (.tup [y, x, z]) ∧ P x H2) := fun H0 e Q q =>
  h H0 e _ fun a xs H1 ha e1 hx ⟨hl, px⟩ => ⟨a, rfl, ⟨xs, sq_of hx⟩, fun Dl hD =>
    lc_list (xs := xs) (fun i H' => Ex H1 H' ∧ ∃ acc : List V, H' Dl = some (.lst acc) ∧ acc.length = i ∧ ∀ v ∈ acc, ∃ (t : Addr) (x : V), v = .ref t ∧ t ≠ Dl ∧ H' t = some (.tup [y, x, z]) ∧ x ∈ xs) ⟨Ex.new hD, [], upd_same, rfl, fun _ h => nomatch h⟩ (fun i H' _ p => sq_of (p.1 _ _ hx)) (fun i x H' hi p => ⟨hw x, by
      obtain ⟨p1, acc, g, la, pa⟩ := p
      have hi' := (List.getElem?_eq_some_iff.mp hi).1
      refine et_yes (σ := (wipe σ vs).set j (some x)) (H := H') H' (Ex.refl H') _ fun H3 e3 => iteT ?_
      refine he x H3 (((e.trans e1).trans p1).trans e3) H3 (Ex.refl H3) _ fun t H4 ht e4 g4 => ?_
      have nt : t ≠ Dl := fun q => by
        rw [q, e3 _ _ g] at ht
        cases ht
      have e34 := e3.trans e4
      refine ⟨acc, e34 _ _ g, sz_lt (by omega), (p1.trans e34).mut hD, acc ++ [.ref t], upd_same, by rw [List.length_append, la]; rfl, fun v hv => ?_⟩
      rcases List.mem_append.mp hv with hv | hv
      · obtain ⟨t', x', ev, nt', gt', mx⟩ := pa v hv
        exact ⟨t', x', ev, nt', by rw [upd_ne nt']; exact e34 _ _ gt', mx⟩
      · rw [List.mem_singleton.mp hv]
        exact ⟨t, x, rfl, nt, by rw [upd_ne nt]; exact g4, List.mem_of_getElem? hi⟩⟩)
    (fun H' ⟨p1, acc, g, la, pa⟩ => q Dl acc H' (fresh_back e1 hD) (e1.trans p1) g ⟨by omega, fun v hv => by
      obtain ⟨t', x', ev, nt', gt', mx⟩ := pa v hv
      exact ⟨t', x', ev, gt', mono _ _ _ p1 (px x' mx)⟩⟩)⟩
theorem elp_mono {PL' : List V → Hp → Prop} (h : EvLP te σ H PL) (m : ∀ xs H1, Ex H H1 → PL xs H1 → PL' xs H1) : EvLP te σ H PL' := fun H1 e Q q => h H1 e Q fun p xs H2 hp e2 g pl => q p xs H2 hp e2 g (m xs H2 (e.trans e2) pl)
theorem el_catP {p : Addr} {xs : List V} (ha : Ev ta σ H (.ref p)) (hp : H p = some (.lst xs)) (h : EvLP tb σ H PL) (hz : ∀ ys H1, PL ys H1 → xs.length + ys.length ≤ 100000) (mono : ∀ ys H1 H2, Ex H1 H2 → PL ys H1 → PL ys H2) : EvLP (tOp rCat ta tb) σ H (fun zs H2 => ∃ ys, zs = xs ++ ys ∧ PL ys H2) := fun H1 e Q q =>
  ha H1 e _ fun H2 e2 => h H2 (e.trans e2) _ fun r ys H3 hr e3 g3 pl => ⟨p, r, xs, ys, rfl, rfl, ((e.trans e2).trans e3) _ _ hp, g3, sz_of (hz ys H3 pl), fun l hl => q l _ _ (fresh_back (e2.trans e3) hl) ((e2.trans e3).trans (Ex.new hl)) upd_same ⟨ys, rfl, mono _ _ _ (Ex.new hl) pl⟩⟩
theorem s_asgLP {i : Nat} (h : EvLP te σ H PL) (k : ∀ p xs H1, H p = none → Ex H H1 → H1 p = some (.lst xs) → PL xs H1 → D.nx (σ.set i (some (.ref p))) H1) : tAsg te (gName i) D σ H := h H (Ex.refl H) _ fun p xs H1 hp e g pl => k p xs H1 hp e g pl
theorem q_asgLP {i : Nat} (h : EvLP te σ H PL) (k : ∀ p xs H1, H p = none → Ex H H1 → H1 p = some (.lst xs) → PL xs H1 → tz D (σ.set i (some (.ref p))) H1) : tSeq (tAsg te (gName i)) tz D σ H := s_asgLP (D := { D with nx := tz D }) h k
/-- for x, y, z in a list -/
theorem q_for3 {a : Addr} {xs : List V} {i j l : Nat} (h : Ev tl σ H (.ref a)) (hx : SqL K H a xs) (Pv : Nat → L2.St → Hp → Prop) (h0 : ∀ H1, Ex H H1 → Pv 0 σ H1) (hl : ∀ n σ' H', n ≤ xs.length → Pv n σ' H' → SqL K H' a xs)
    (hs : ∀ n v σ' H', xs[n]? = some v → Pv n σ' H' → ∃ t x y z, v = .ref t ∧ SqT K H' t [x, y, z] ∧ tu { D with nx := Pv (n + 1), ct := Pv (n + 1), bk := tz D } (((σ'.set i (some x)).set j (some y)).set l (some z)) H') (hd : ∀ σ' H', Pv xs.length σ' H' → tz D σ' H') :
    tSeq (tFor (iList K tl) (gTup K 3 (gCons (gName i) (gCons (gName j) (gCons (gName l) gNil)))) tu) tz D σ H :=
  h H (Ex.refl H) _ fun H1 e => ⟨a, rfl, ⟨xs, ex_l e hx⟩, for_list (D := { D with nx := tz D }) Pv (h0 H1 e) hl (fun n v σ' H' hv p => by
    obtain ⟨t, x, y, z, rfl, ht, q⟩ := hs n v σ' H' hv p
    exact ⟨t, _, rfl, ht, rfl, _, _, rfl, _, _, rfl, _, _, rfl, rfl, q⟩) hd⟩
theorem s_callS {sp : Sp} {E : L2.St → XK} {vs : List V} (ha : EvA t σ H vs) (k : ∀ H1, Ex H H1 → sp vs H1 (fun _ H2 => D.nx σ H2) (E σ)) : tDrop (tCallS sp E t) D σ H := ha H (Ex.refl H) _ fun H1 e1 => k H1 e1
end
end Bk
namespace Bk
open PySem PySem.Spec PyProof.Rows L2 Evl
/-! ### a tuple that the program holds -/
def FrT (K : PySem.W.Frag) (a : Addr) (xs : List V) : Prop := ∃ (o : Obj) (its : Array Value) (n : Nat), K.lookup a = some o ∧ o.cls = .type "tuple" ∧ o.data = .seq its n ∧ its.size ≤ sizeLine ∧ Vals xs its.toList
theorem FrT.sq {K : PySem.W.Frag} {a : Addr} {xs : List V} (h : FrT K a xs) {H : Hp} : SqT K H a xs := .inr h
theorem frt3 {K : PySem.W.Frag} {a : Addr} {od : Option Addr} {n : Nat} {sl : Array (Option Value)} {u1 u2 u3 : Value} {x1 x2 x3 : V} (h : K.lookup a = some ⟨.type "tuple", od, .seq #[u1, u2, u3] n, sl⟩) (r1 : RelV x1 u1) (r2 : RelV x2 u2) (r3 : RelV x3 u3) : FrT K a [x1, x2, x3] :=
  ⟨_, _, _, h, rfl, rfl, by
    rw [sizeLine_eq]
    show 3 ≤ _
    decide, .cons r1 (.cons r2 (.cons r3 .nil))⟩
theorem cr_anyK {X : Cx} {K : PySem.W.Frag} (h : X.K = K) (hc : X.calm = true) : CallR X (.builtin "any") (rAny K) := by
  subst h
  exact cr_any hc
theorem kb_str_str : kitB "str" "str" = some true := by decide +kernel
section
variable {K : PySem.W.Frag} {σ : L2.St} {H : Hp} {ta te tl : TE} {D : Ends} {tz : TS}
theorem ev_anyN {bs : List Bool} (ha : EvL ta σ H (bs.map V.bl)) : Ev (tCB (rAny K) (tCons ta tNil)) σ H (.bl (bs.any id)) := fun H1 e Q q =>
  ha H1 e _ fun p H2 hp2 e2 h2 => ⟨p, bs, rfl, sq_of h2, q H2 e2⟩
/-- x, y, z = a tuple -/
theorem q_tup3 {i j l : Nat} {t : Addr} {x y z : V} (h : Ev te σ H (.ref t)) (ht : SqT K H t [x, y, z]) (k : ∀ H1, Ex H H1 → tz D (((σ.set i (some x)).set j (some y)).set l (some z)) H1) : tSeq (tAsg te (gTup K 3 (gCons (gName i) (gCons (gName j) (gCons (gName l) gNil))))) tz D σ H :=
  h H (Ex.refl H) _ fun H1 e1 => ⟨t, _, rfl, ex_t e1 ht, rfl, _, _, rfl, _, _, rfl, _, _, rfl, rfl, k H1 e1⟩
/-- a comprehension over a tuple of triples -/
theorem el_lcT3 {a : Addr} {xs : List V} {i j l : Nat} {vs : List Nat} (v : Nat → V) (its : List (V × V × V)) (h : Ev tl σ H (.ref a)) (hx : SqT K H a xs) (hz : xs.length ≤ 40000) (h3 : ∀ (n : Nat) x, xs[n]? = some x → ∃ t p, x = .ref t ∧ its[n]? = some p ∧ SqT K H t [p.1, p.2.1, p.2.2])
    (hw : ∀ x y z, wipe ((((wipe σ vs).set i (some x)).set j (some y)).set l (some z)) vs = wipe σ vs) (he : ∀ (n : Nat) p H1, Ex H H1 → its[n]? = some p → Ev te ((((wipe σ vs).set i (some p.1)).set j (some p.2.1)).set l (some p.2.2)) H1 (v n)) :
    EvL (tLc (iTup K tl) (gTup K 3 (gCons (gName i) (gCons (gName j) (gCons (gName l) gNil)))) tYes te vs) σ H (given xs.length (fun _ => true) v) := fun H0 e Q q => h H0 e _ fun H1 e1 => ⟨a, rfl, ⟨xs, ex_t (e.trans e1) hx⟩, fun Dl hD =>
  lc_tup (xs := xs) (Cw H1 (fun _ => true) v Dl) ⟨hD, Ex.new hD, upd_same⟩ (fun i H' _ p => ex_t ((e.trans e1).trans p.2.1) hx) (fun n x H' hi p => by
    have hl := (List.getElem?_eq_some_iff.mp hi).1
    obtain ⟨t, w, rfl, hp, ht⟩ := h3 n x hi
    exact ⟨t, _, rfl, ex_t ((e.trans e1).trans p.2.1) ht, rfl, _, _, rfl, _, _, rfl, _, _, rfl, rfl, hw _ _ _, cw_turn p (by omega) (fun H3 _ Q q => q H3 (Ex.refl H3)) fun _ => he n w H1 (e.trans e1) hp⟩)
    (fun H' p => q Dl H' (fresh_back e1 p.1) (e1.trans p.2.1) p.2.2)⟩
end
end Bk
namespace Bk
open PySem PySem.Spec PyProof.Rows L2 Evl SX
/-! ### texts: rules and readings -/
def rJoin (K : PySem.W.Frag) : V → List V → Hp → VK → Prop := fun x xs H Q => ∃ a p, ∃ ys : List Str, x = .str a ∧ xs = [.ref p] ∧ (SqL K H p (ys.map V.str) ∨ SqT K H p (ys.map V.str)) ∧ (ys.map (·.length)).sum + ys.length * a.length ≤ 16777216 ∧ Q (.str (Txt.join a ys)) H
def rSplit : V → List V → Hp → VK → Prop := fun x xs H Q => ∃ a b, x = .str a ∧ xs = [.str b] ∧ (b.length == 0) = false ∧ a.length + 2 ≤ sizeLine ∧ rNewStrs (Txt.split a b) H Q
def rT0 (g : Str → V) : V → List V → Hp → VK → Prop := fun x xs H Q => ∃ a, x = .str a ∧ xs = [] ∧ True ∧ Q (g a) H
def rT1 (g : Str → Str → V) : V → List V → Hp → VK → Prop := fun x xs H Q => ∃ a b, x = .str a ∧ xs = [.str b] ∧ Q (g a b) H
section
variable {X : Cx}
theorem mt_joinK {K : PySem.W.Frag} (h : X.K = K) : MtR X "str.join" (rJoin K) := by
  subst h
  exact mt_join
theorem mt_splitR : MtR X "str.split" rSplit := mt_split
theorem mt_isdigit0 : MtR X "str.isdigit" (rT0 fun a => .bl (Txt.isdigit a)) := mt_isdigit
theorem mt_isascii0 : MtR X "str.isascii" (rT0 fun a => .bl (Txt.isascii a)) := mt_isascii
theorem mt_startswith1 : MtR X "str.startswith" (rT1 fun a b => .bl (Txt.startswith a b)) := mt_startswith
theorem mt_endswith1 : MtR X "str.endswith" (rT1 fun a b => .bl (Txt.endswith a b)) := mt_endswith
end
section
variable {K : PySem.W.Frag} {σ : L2.St} {H : Hp} {ta tb te : TE} {a b : Str}
theorem ev_t0 {g : Str → V} (h : Ev ta σ H (.str a)) : Ev (tM0 (rT0 g) ta) σ H (g a) := fun H1 e Q q => h H1 e _ fun H2 e2 => ⟨⟨a, rfl⟩, a, rfl, rfl, trivial, q H2 e2⟩
theorem ev_t1 {g : Str → Str → V} (h : Ev ta σ H (.str a)) (h' : Ev tb σ H (.str b)) : Ev (tM1 (rT1 g) ta tb) σ H (g a b) := fun H1 e Q q => h H1 e _ fun H2 e2 => ⟨⟨a, rfl⟩, h' H2 (e.trans e2) _ fun H3 e3 => ⟨a, b, rfl, rfl, q H3 (e2.trans e3)⟩⟩
theorem ev_joinN {ys : List Str} (h : Ev ta σ H (.str a)) (h' : EvL tb σ H (ys.map V.str)) (hz : (ys.map (·.length)).sum + ys.length * a.length ≤ 16777216) : Ev (tM1 (rJoin K) ta tb) σ H (.str (Txt.join a ys)) := fun H1 e Q q =>
  h H1 e _ fun H2 e2 => ⟨⟨a, rfl⟩, h' H2 (e.trans e2) _ fun p H3 _ e3 g => ⟨a, p, ys, rfl, rfl, .inl (sq_of g), hz, q H3 (e2.trans e3)⟩⟩
theorem ev_join {ys : List Str} {p : Addr} (h : Ev ta σ H (.str a)) (h' : Ev tb σ H (.ref p)) (g : SqL K H p (ys.map V.str)) (hz : (ys.map (·.length)).sum + ys.length * a.length ≤ 16777216) : Ev (tM1 (rJoin K) ta tb) σ H (.str (Txt.join a ys)) := fun H1 e Q q =>
  h H1 e _ fun H2 e2 => ⟨⟨a, rfl⟩, h' H2 (e.trans e2) _ fun H3 e3 => ⟨a, p, ys, rfl, rfl, .inl (ex_l ((e.trans e2).trans e3) g), hz, q H3 (e2.trans e3)⟩⟩
theorem el_split (h : Ev ta σ H (.str a)) (h' : Ev tb σ H (.str b)) (hb : (b.length == 0) = false) (hz : a.length + 2 ≤ sizeLine) : EvL (tM1 rSplit ta tb) σ H ((Txt.split a b).map V.str) := fun H1 e Q q =>
  h H1 e _ fun H2 e2 => ⟨⟨a, rfl⟩, h' H2 (e.trans e2) _ fun H3 e3 => ⟨a, b, rfl, rfl, hb, hz, fun p hp => q p _ (fresh_back (e2.trans e3) hp) ((e2.trans e3).trans (Ex.new hp)) upd_same⟩⟩
theorem ev_bits {i : Int} (h : Ev ta σ H (.int i)) : Ev (tBits ta) σ H (.int (Builtin.Int.intBits i : Nat)) := fun H1 e Q q => h H1 e _ fun H2 e2 => ⟨i, rfl, q H2 e2⟩
theorem ev_slS {tl th : TO} {z : Str} {lo hi : Option Int} (h : Ev te σ H (.str z)) (h1 : EvO tl σ H lo) (h2 : EvO th σ H hi) (hz : z.length ≤ sizeLine) : Ev (tSl L2.rSlS te tl th) σ H (.str (cutS z lo hi)) := fun H1 e Q q =>
  h H1 e _ fun H2 e2 => h1 H2 (e.trans e2) _ fun H3 e3 => h2 H3 ((e.trans e2).trans e3) _ fun H4 e4 => ⟨z, rfl, hz, q H4 ((e2.trans e3).trans e4)⟩
theorem ev_intS {n : Int} (h : Ev ta σ H (.str a)) (hn : PySem.intText? a = some n) (hl : a.length ≤ 640) : Ev (tCB (fun xs H Q => ∃ a n, xs = [V.str a] ∧ PySem.intText? a = some n ∧ a.length ≤ 640 ∧ Q (.int n) H) (tCons ta tNil)) σ H (.int n) := fun H1 e Q q =>
  h H1 e _ fun H2 e2 => ⟨a, n, rfl, hn, hl, q H2 e2⟩
theorem ev_lenS (h : Ev ta σ H (.str a)) (hz : a.length ≤ sizeLine) : Ev (tCB (fun xs H Q => ∃ z : Str, xs = [V.str z] ∧ z.length ≤ sizeLine ∧ Q (.int z.length) H) (tCons ta tNil)) σ H (.int (a.length : Int)) := fun H1 e Q q => h H1 e _ fun H2 e2 => ⟨a, rfl, hz, q H2 e2⟩
variable {D : Ends} {tu tz : TS}
theorem q_forNEn {xs : List V} {tl : TE} {i j : Nat} (h : EvL tl σ H xs) (Pv : Addr → Nat → L2.St → Hp → Prop) (h0 : ∀ p H1, H p = none → Ex H H1 → H1 p = some (.lst xs) → Pv p 0 σ H1) (hl : ∀ p n σ' H', n ≤ xs.length → Pv p n σ' H' → SqL K H' p xs)
    (hs : ∀ p n x σ' H', xs[n]? = some x → Pv p n σ' H' → ∀ H1, Ex H' H1 → tu { D with nx := Pv p (n + 1), ct := Pv p (n + 1), bk := tz D } ((σ'.set i (some (.int (n : Nat)))).set j (some x)) H1) (hd : ∀ p σ' H', Pv p xs.length σ' H' → tz D σ' H') :
    tSeq (tFor (iEnum K (tCons tl tNil)) (g2 K i j) tu) tz D σ H :=
  h H (Ex.refl H) _ fun p H1 hp e h1 => ⟨p, xs, rfl, sq_of h1, for_Ite (D := { D with nx := tz D }) (Pv p) (h0 p H1 hp e h1) (hl p) (hs p) (hd p)⟩
end
section
variable {σ : L2.St} {H : Hp} {D : Ends} {tu tz : TS}
theorem q_forR3G {ta : TA} {i : Nat} {lo j c : Int} (h : EvA ta σ H [.int lo, .int j, .int c]) (l0 : 0 ≤ lo) (l1 : lo ≤ 100000) (h0 : 0 ≤ j) (h1 : j ≤ 100000) (c0 : 0 < c) (c1 : c ≤ 100000) (Pv : Nat → L2.St → Hp → Prop) (hp0 : ∀ H1, Ex H H1 → Pv 0 σ H1)
    (hs : ∀ (k : Nat) σ' H', lo + (k : Int) * c < j → Pv k σ' H' → tu { D with nx := Pv (k + 1), ct := Pv (k + 1), bk := tz D } (σ'.set i (some (.int (lo + (k : Int) * c)))) H') (hd : ∀ (k : Nat) σ' H', j ≤ lo + (k : Int) * c → Pv k σ' H' → tz D σ' H') : tSeq (tFor (iRng3 ta) (gName i) tu) tz D σ H :=
  s_forR3G (D := { D with nx := tz D }) h l0 l1 h0 h1 c0 c1 Pv hp0 hs hd
end
/-! ### texts: mathematics -/
theorem asc_S (l : List Nat) : Txt.isascii (S l) = l.all fun c => decide (c < 128) := by
  show (S l).cps.all _ = _
  rw [← Array.all_toList]
theorem dig_one : ∀ c : Fin 128, Unicode.isDigit c.val = (decide (48 ≤ c.val) && decide (c.val ≤ 57)) := by decide +kernel
def dg (c : Nat) : Bool := decide (48 ≤ c) && decide (c ≤ 57)
theorem dig_S {l : List Nat} (h : (l.all fun c => decide (c < 128)) = true) : Txt.isdigit (S l) = (decide (0 < l.length) && l.all dg) := by
  have e : Txt.isdigit (S l) = (decide (0 < l.length) && l.all Unicode.isDigit) := by
    show (decide ((S l).length > 0) && (S l).cps.all Unicode.isDigit) = _
    rw [S_len, ← Array.all_toList]
  rw [e]
  congr 1
  induction l with
  | nil => rfl
  | cons c r ih =>
    rw [List.all_cons, Bool.and_eq_true] at h
    rw [List.all_cons, List.all_cons, dig_one ⟨c, of_decide_eq_true h.1⟩]
    show (dg c && _) = _
    congr 1
    have e2 : Txt.isdigit (S r) = (decide (0 < r.length) && r.all Unicode.isDigit) := by
      show (decide ((S r).length > 0) && (S r).cps.all Unicode.isDigit) = _
      rw [S_len, ← Array.all_toList]
    exact ih h.2 e2
theorem dg_asc {l : List Nat} (h : l.all dg = true) : (l.all fun c => decide (c < 128)) = true := by
  rw [List.all_eq_true] at h ⊢
  intro c hc
  have := h c hc
  unfold dg at this
  simp only [Bool.and_eq_true, decide_eq_true_eq] at this
  exact decide_eq_true (by omega)
theorem starts_S (l m : List Nat) : Txt.startswith (S l) (S m) = (l.take m.length == m) := by
  unfold Txt.startswith
  rw [PySem.StrLaws.subAt_eq, S_len, S_len]
  show (decide (0 + m.length ≤ l.length) && ((l.drop 0).take m.length == m)) = _
  rw [List.drop_zero, Nat.zero_add]
  by_cases h : m.length ≤ l.length
  · rw [decide_eq_true h, Bool.true_and]
  · rw [decide_eq_false h, Bool.false_and]
    cases e : (l.take m.length == m) with
    | false => rfl
    | true =>
      have e1 := congrArg List.length (eq_of_beq e)
      rw [List.length_take] at e1
      omega
/-- the number that stands in a text from 0 on -/
def natT (l : List Nat) : Option Nat := if l.all dg = true ∧ l ≠ [] ∧ (l.take 1 = [48] → l = [48]) then some (NumText.digitsVal l) else none
def wholeT (l : List Nat) : Option Int := if l.take 1 = [45] then (match natT (l.drop 1) with | some n => if n = 0 then none else some (-(n : Int)) | none => none) else (match natT l with | some n => some (n : Int) | none => none)
def numT (n : Int) : List Nat := if n < 0 then 45 :: TL.numL n.natAbs else TL.numL n.natAbs
theorem dg_num (n : Nat) : (TL.numL n).all dg = true := by
  rw [List.all_eq_true]
  intro c hc
  have := TL.numL_digits n c hc
  unfold dg
  simp only [Bool.and_eq_true, decide_eq_true_eq]
  exact this
theorem numL_head (n : Nat) (h : n ≠ 0) : ∃ c r, TL.numL n = c :: r ∧ 49 ≤ c := by
  induction n using Nat.strongRecOn with
  | _ n ih =>
    by_cases h1 : n < 10
    · rw [TL.numL_lt h1]
      exact ⟨48 + n, [], rfl, by omega⟩
    · rw [TL.numL_step (by omega)]
      obtain ⟨c, r, e, k⟩ := ih (n / 10) (by omega) (by omega)
      rw [e]
      exact ⟨c, r ++ [48 + n % 10], rfl, k⟩
theorem natT_num (n : Nat) : natT (TL.numL n) = some n := by
  have key : (TL.numL n).take 1 = [48] → TL.numL n = [48] := fun h => by
    by_cases h0 : n = 0
    · subst h0
      rw [TL.numL_lt (by decide)]
    · obtain ⟨c, r, e, k⟩ := numL_head n h0
      rw [e] at h
      injection h with h1
      omega
  unfold natT
  rw [if_pos ⟨dg_num n, TL.numL_ne n, key⟩, TL.numL_val]
theorem wholeT_num (n : Int) : wholeT (numT n) = some n := by
  unfold wholeT numT
  by_cases h : n < 0
  · rw [if_pos h, if_pos (show (45 :: TL.numL n.natAbs).take 1 = [45] from rfl)]
    show (match natT (TL.numL n.natAbs) with | some n => if n = 0 then none else some (-(n : Int)) | none => none) = some n
    rw [natT_num]
    show (if n.natAbs = 0 then none else some (-(n.natAbs : Int))) = some n
    rw [if_neg (by omega)]
    congr 1
    omega
  · rw [if_neg h, if_neg, natT_num]
    · show some ((n.natAbs : Nat) : Int) = some n
      congr 1
      omega
    · intro z
      cases e : TL.numL n.natAbs with
      | nil => exact TL.numL_ne _ e
      | cons c r =>
        rw [e] at z
        injection z with z1
        have := TL.numL_digits n.natAbs c (by rw [e]; exact List.mem_cons_self ..)
        omega
theorem str_num (n : Int) : (Str.ofString (toString n)) = S (numT n) := by
  refine TL.ext_tl ?_
  unfold numT
  by_cases h : n < 0
  · obtain ⟨m, rfl⟩ : ∃ m : Nat, n = Int.negSucc m := ⟨n.natAbs - 1, by omega⟩
    rw [if_pos h]
    show TL.tl (Str.ofString ("-" ++ toString (m + 1))) = 45 :: TL.numL (m + 1)
    rw [TL.tl_ofString, String.toList_append, List.map_append, ← TL.tl_num (m + 1), TL.tl_ofString]
    rfl
  · obtain ⟨m, rfl⟩ : ∃ m : Nat, n = m := ⟨n.toNat, by omega⟩
    rw [if_neg h]
    exact TL.tl_num m
theorem natT_val {l : List Nat} {n : Nat} (h : natT l = some n) (hl : l.length ≤ 4300) : PySem.intText? (S l) = some (n : Int) := by
  unfold natT at h
  split at h
  · rename_i c
    cases h
    refine int_S ?_ c.2.1 hl
    exact c.1
  · cases h
def optI : Option Int → V
  | none => .non
  | some n => .int n
def optN : Option Nat → V
  | none => .non
  | some n => .int (n : Int)
theorem cut_from (l : List Nat) (k : Nat) : cutS (S l) (some (k : Int)) none = S (l.drop k) := by
  unfold cutS
  rw [S_len, HT.sIx_nat, HT.sIx_none]
  refine TL.ext_tl ?_
  show (l.drop (min k l.length)).take (l.length - min k l.length) = l.drop k
  by_cases h : k ≤ l.length
  · rw [Nat.min_eq_left h]
    exact List.take_of_length_le (by rw [List.length_drop]; omega)
  · rw [Nat.min_eq_right (by omega), List.drop_length, List.take_nil, List.drop_eq_nil_of_le (by omega)]
theorem cut_both (l : List Nat) (j k : Nat) : cutS (S l) (some (j : Int)) (some (k : Int)) = S ((l.drop j).take (k - j)) := by
  unfold cutS
  rw [S_len, HT.sIx_nat, HT.sIx_nat]
  refine TL.ext_tl ?_
  show (l.drop (min j l.length)).take (min k l.length - min j l.length) = (l.drop j).take (k - j)
  by_cases h : j ≤ l.length
  · rw [Nat.min_eq_left h]
    by_cases h2 : k ≤ l.length
    · rw [Nat.min_eq_left h2]
    · rw [Nat.min_eq_right (show l.length ≤ k by omega), List.take_of_length_le (by rw [List.length_drop]; omega), List.take_of_length_le (by rw [List.length_drop]; omega)]
  · rw [Nat.min_eq_right (show l.length ≤ j by omega), List.drop_length, List.take_nil, List.drop_eq_nil_of_le (by omega), List.take_nil]
theorem numT_len {n : Int} {k : Nat} (hk : 0 < k) (h0 : -(10 ^ k) < n) (h1 : n < 10 ^ k) : (numT n).length ≤ k + 1 := by
  have hn : n.natAbs < 10 ^ k := by
    have e : ((10 : Int) ^ k) = ((10 ^ k : Nat) : Int) := by simp
    rw [e] at h0 h1
    omega
  have := TL.numL_len hk hn
  unfold numT
  split
  · rw [List.length_cons]
    omega
  · omega
theorem slen (l : List Nat) (h : l.length ≤ 100000) : (S l).length ≤ sizeLine := by
  rw [S_len]
  exact sz_of h
/-- the texts of numbers, with a comma and a blank between -/
def rowT (ns : List Int) : List Nat := TL.joinL [44, 32] (ns.map numT)
theorem numT_free (n : Int) : ∀ c ∈ numT n, c = 45 ∨ (48 ≤ c ∧ c ≤ 57) := by
  intro c hc
  unfold numT at hc
  split at hc
  · rcases List.mem_cons.mp hc with h | h
    · exact .inl h
    · exact .inr (TL.numL_digits _ c h)
  · exact .inr (TL.numL_digits _ c hc)
theorem joinL_len (sep : List Nat) : ∀ ps : List (List Nat), (TL.joinL sep ps).length ≤ (ps.map (·.length)).sum + ps.length * sep.length
  | [] => by simp [TL.joinL]
  | [p] => by simp [TL.joinL]
  | p :: q :: r => by
    show (p ++ (sep ++ TL.joinL sep (q :: r))).length ≤ _
    have ih := joinL_len sep (q :: r)
    simp only [List.length_append, List.map_cons, List.sum_cons, List.length_cons, Nat.succ_mul] at ih ⊢
    omega
theorem split_row {ns : List Int} (h : ns ≠ []) : Txt.split (S (rowT ns)) (S [44, 32]) = ns.map fun n => S (numT n) := by
  rw [split_S (by decide) (by decide)]
  unfold rowT
  rw [spl_join (by simp [h])]
  · rw [List.map_map]
    rfl
  · intro p hp
    obtain ⟨n, _, rfl⟩ := List.mem_map.mp hp
    intro hc
    have := numT_free n _ hc
    omega
theorem join_row (ns : List Int) : Txt.join (S [44, 32]) (ns.map fun n => S (numT n)) = S (rowT ns) := by
  have := join_S [44, 32] (ns.map numT)
  rw [List.map_map] at this
  exact this
theorem numT_inj {m n : Int} (h : numT m = numT n) : m = n := by
  have := wholeT_num m
  rw [h, wholeT_num] at this
  cases this
  rfl
theorem log_num {n : Int} (h : n.natAbs < 2 ^ 1900) : n.natAbs.log2 < 1920 := Nat.lt_of_lt_of_le (PySem.Flt.log2_lt_of (k := 1900) (by decide) h) (by decide)
theorem bits_num {n : Int} (h : n.natAbs < 2 ^ 1900) : (((PySem.Builtin.Int.intBits n : Nat) : Int) ≤ 14000) := by
  have := PyProof.Rows.intBits_le h
  omega
theorem num_neg {n : Int} (h : n < 0) : ("-" : Str) ++ S (numT (-n)) = S (numT n) := by
  have e : numT n = 45 :: numT (-n) := by
    unfold numT
    rw [if_pos h, if_neg (by omega), Int.natAbs_neg]
  rw [e]
  exact S_cat [45] (numT (-n))
theorem numT_lt {n : Int} (h : n.natAbs < 2 ^ 1900) : (numT n).length ≤ 1901 := by
  have := str_len (i := n) (Nat.lt_of_lt_of_le (PySem.Flt.log2_lt_of (k := 1900) (by decide) h) (by decide))
  have e : (toString n : Str).length = (numT n).length := by
    show (Str.ofString (toString n)).length = _
    rw [str_num, S_len]
  omega
end Bk
namespace Bk
open PySem PySem.Spec PyProof.Rows L2 Evl SX
/-! ### f'..': readings -/
def EvJ (ts : List TE) (σ : L2.St) (H : Hp) (acc out : List Nat) : Prop := ∀ H1, Ex H H1 → ∀ Q : Str → Hp → Prop, (∀ H2, Ex H1 H2 → Q (S out) H2) → tJs ts (S acc) σ H1 Q
section
variable {K : PySem.W.Frag} {σ : L2.St} {H : Hp} {t te ta tb : TE} {ts : List TE} {a b out : List Nat}
theorem ej_nil : EvJ [] σ H a a := fun H1 e Q q => q H1 (Ex.refl H1)
theorem ej_cons (h : Ev t σ H (.str (S b))) (hz : a.length + b.length ≤ 100000) (r : EvJ ts σ H (a ++ b) out) : EvJ (t :: ts) σ H a out := fun H1 e Q q =>
  h H1 e _ fun H2 e2 => ⟨S b, rfl, by rw [S_cat, S_len, List.length_append]; exact sz_of hz, by
    rw [S_cat]
    exact r H2 (e.trans e2) Q fun H3 e3 => q H3 (e2.trans e3)⟩
theorem ev_js (h : EvJ ts σ H [] out) : Ev (fun σ H Q => tJs ts Str.empty σ H fun out H1 => Q (.str out) H1) σ H (.str (S out)) := fun H1 e Q q => h H1 e _ fun H2 e2 => q H2 e2
theorem ev_fmt {y : List Nat} (h : Ev te σ H (.str (S y))) (hz : y.length ≤ 100000) : Ev (tFmt te) σ H (.str (S y)) := fun H1 e Q q => h H1 e _ fun H2 e2 => .inl ⟨S y, rfl, slen y hz, q H2 e2⟩
theorem ev_addT (h : Ev ta σ H (.str (S a))) (h' : Ev tb σ H (.str (S b))) (hz : a.length + b.length ≤ 100000) : Ev (tOp (fun x y H Q => ∃ i j, x = V.str i ∧ y = V.str j ∧ i.length + j.length ≤ sizeLine ∧ Q (.str (i ++ j)) H) ta tb) σ H (.str (S (a ++ b))) :=
  ev_is (ev_op h h' (rv_addS (by rw [S_len, S_len]; exact hz))) (congrArg V.str (S_cat a b))
end
/-! ### lists of texts compared -/
def vs (ys : List (List Nat)) : List V := ys.map fun l => .str (S l)
def ds (ys : List (List Nat)) : List PyData := ys.map fun l => .str (S l)
def strsOk (ys : List (List Nat)) : Prop := ∀ l ∈ ys, (l.all fun c => decide (c < 1114112)) = true
theorem strsOk_of {ys : List (List Nat)} (h : (ys.all fun l => l.all fun c => decide (c < 1114112)) = true) : strsOk ys := fun l hl => List.all_eq_true.mp h l hl
theorem ok_S {l : List Nat} (h : (l.all fun c => decide (c < 1114112)) = true) : PyData.strOk (S l) = true := by
  show (S l).cps.all _ = true
  rw [← Array.all_toList]
  exact h
theorem dpAll_strs (K : PySem.W.Frag) (H : Hp) : ∀ ys : List (List Nat), DpAll K H (vs ys) (ds ys)
  | [] => .nil
  | y :: ys => .cons (.str _) (dpAll_strs K H ys)
theorem canLay_strs : ∀ {ys : List (List Nat)}, strsOk ys → PyData.canLayAll0 (ds ys) = true
  | [], _ => rfl
  | y :: ys, h => by
    show PyData.canLayAll0 (.str (S y) :: ds ys) = true
    rw [PyData.canLayAll0, PyData.canLay0, ok_S (h y (List.mem_cons_self ..)), canLay_strs fun l m => h l (List.mem_cons_of_mem _ m)]
    rfl
theorem depth_strs : ∀ ys : List (List Nat), PyData.depthAll (ds ys) = 0
  | [] => rfl
  | y :: ys => by
    show PyData.depthAll (.str (S y) :: ds ys) = 0
    rw [PyData.depthAll, PyData.depth, depth_strs ys]
    rfl
theorem shaped_strs {ys : List (List Nat)} (h : strsOk ys) : SeqAt.shaped (.list (ds ys)) = true := by
  unfold SeqAt.shaped
  rw [PyData.canLay0, PyData.depth, canLay_strs h, depth_strs]
  rfl
theorem eqvAll_strs : ∀ as bs : List (List Nat), PyData.eqvAll (ds as) (ds bs) = decide (as = bs)
  | [], [] => rfl
  | [], _ :: _ => rfl
  | _ :: _, [] => rfl
  | a :: as, b :: bs => by
    show PyData.eqvAll (.str (S a) :: ds as) (.str (S b) :: ds bs) = _
    rw [PyData.eqvAll, PyData.eqv, eqvAll_strs as bs, S_beq]
    by_cases h : a = b
    · by_cases h2 : as = bs
      · simp [h, h2]
      · simp [h, h2]
    · simp [h]
section
variable {K : PySem.W.Frag} {σ : L2.St} {H : Hp} {ta tb : TE} {as bs : List (List Nat)}
theorem ev_eqTT (ha : strsOk as) (hb : strsOk bs) (h1 : EvL ta σ H (vs as)) (h2 : EvL tb σ H (vs bs)) : Ev (tOp (rEqD K) ta tb) σ H (.bl (decide (as = bs))) := fun H1 e Q k =>
  h1 H1 e _ fun p H2 _ e2 g2 => h2 H2 (e.trans e2) _ fun q H3 _ e3 g3 => ⟨.list (ds as), .list (ds bs), .lst (sq_of (e3 _ _ g2)) (dpAll_strs K H3 as), .lst (sq_of g3) (dpAll_strs K H3 bs), shaped_strs ha, shaped_strs hb, by
    rw [PyData.eqv, eqvAll_strs]
    exact k H3 (e2.trans e3)⟩
theorem ev_eqPT {p : Addr} (ha : strsOk as) (hb : strsOk bs) (h1 : Ev ta σ H (.ref p)) (g : SqL K H p (vs as)) (h2 : EvL tb σ H (vs bs)) : Ev (tOp (rEqD K) ta tb) σ H (.bl (decide (as = bs))) := fun H1 e Q k =>
  h1 H1 e _ fun H2 e2 => h2 H2 (e.trans e2) _ fun q H3 _ e3 g3 => ⟨.list (ds as), .list (ds bs), .lst (ex_l ((e.trans e2).trans e3) g) (dpAll_strs K H3 as), .lst (sq_of g3) (dpAll_strs K H3 bs), shaped_strs ha, shaped_strs hb, by
    rw [PyData.eqv, eqvAll_strs]
    exact k H3 (e2.trans e3)⟩
end
theorem tup_lst {H : Hp} {r l : Addr} {us xs : List V} (h : H r = some (.tup us)) (g : H l = some (.lst xs)) : r ≠ l := fun z => by
  rw [z, g] at h
  cases h
theorem well_lst {H : Hp} {a : Addr} {n : Nat} (w : Well H a n) : ∃ xs, H a = some (.lst xs) := by
  obtain ⟨x, y, c, q1, q2⟩ := w
  exact ⟨_, q1⟩
/-! ### the texts of rules: split at ' + ' -/
theorem pre_plus {p q : List Nat} (h : 43 ∉ p) : ∀ i, i < p.length → TL.pre [32, 43, 32] ((p ++ ([32, 43, 32] ++ q)).drop i) = false := fun i hi => by
  have hlt : i < (p ++ ([32, 43, 32] ++ q)).length := by rw [List.length_append]; omega
  rw [List.drop_eq_getElem_cons hlt]
  have hlt2 : i + 1 < (p ++ ([32, 43, 32] ++ q)).length := by
    rw [List.length_append, List.length_append]
    show _ < _ + (3 + _)
    omega
  rw [List.drop_eq_getElem_cons hlt2]
  have n2 : (p ++ ([32, 43, 32] ++ q))[i + 1] ≠ 43 := by
    by_cases c : i + 1 < p.length
    · rw [List.getElem_append_left c]
      exact fun z => h (z ▸ List.getElem_mem c)
    · rw [List.getElem_append_right (by omega)]
      have e : i + 1 - p.length = 0 := by omega
      simp only [e]
      show (32 : Nat) ≠ 43
      decide
  generalize (p ++ ([32, 43, 32] ++ q))[i] = c1
  generalize (p ++ ([32, 43, 32] ++ q))[i + 1] = c2 at n2
  show ((c1 :: c2 :: _).take 3 == [32, 43, 32]) = false
  refine beq_eq_false_iff_ne.mpr fun z => ?_
  simp only [List.take_succ_cons, List.cons.injEq] at z
  exact n2 z.2.1
theorem pre_plus_last {p : List Nat} (h : 43 ∉ p) : ∀ i, i < p.length → TL.pre [32, 43, 32] (p.drop i) = false := fun i hi => by
  rw [List.drop_eq_getElem_cons hi]
  have hm : 43 ∉ p.drop (i + 1) := fun m => h (List.mem_of_mem_drop m)
  generalize p[i] = c1
  generalize p.drop (i + 1) = r at hm
  show ((c1 :: r).take 3 == [32, 43, 32]) = false
  refine beq_eq_false_iff_ne.mpr fun z => ?_
  cases r with
  | nil => simp at z
  | cons c2 r =>
    simp only [List.take_succ_cons, List.cons.injEq] at z
    exact hm (by rw [z.2.1]; exact List.mem_cons_self ..)
theorem spl_plus : ∀ {parts : List (List Nat)}, parts ≠ [] → (∀ p ∈ parts, 43 ∉ p) → TL.spl [32, 43, 32] 0 [] (TL.joinL [32, 43, 32] parts) = parts
  | [], h, _ => absurd rfl h
  | [p], _, hp => by
    show TL.spl [32, 43, 32] 0 [] p = [p]
    rw [TL.spl_last (pre_plus_last (hp p (List.mem_singleton.mpr rfl))), List.nil_append]
  | p :: q :: r, _, hp => by
    show TL.spl [32, 43, 32] 0 [] (p ++ ([32, 43, 32] ++ TL.joinL [32, 43, 32] (q :: r))) = p :: q :: r
    rw [TL.spl_part (by simp) (pre_plus (hp p (List.mem_cons_self ..))), List.nil_append, spl_plus (by simp) fun z hz => hp z (List.mem_cons_of_mem _ hz)]
def PI (lo hi : Int) : V → Prop := fun v => ∃ c : Int, v = .int c ∧ lo ≤ c ∧ c ≤ hi
theorem ew_i {σ : L2.St} {H : Hp} {te : TE} {a : Addr} {c lo hi : Int} (h : Ev te σ (hid a H) (.int c)) (h0 : lo ≤ c) (h1 : c ≤ hi) : EvW a 0 te σ H (PI lo hi) := ew_pure h ⟨c, rfl, h0, h1⟩
theorem ewx_nil {σ : L2.St} {H : Hp} {a : Addr} {P : V → Prop} : EvWA a 0 tNil σ H (fun vs => vs.length = 0 ∧ ∀ v ∈ vs, P v) := fun n H1 b w l Q q => q [] H1 (But.refl a H1) w ⟨rfl, fun _ h => nomatch h⟩
theorem ewx_cons {σ : L2.St} {H : Hp} {a : Addr} {P : V → Prop} {d1 d2 n : Nat} {te : TE} {tr : TA} (h : EvW a d1 te σ H P) (hr : EvWA a d2 tr σ H (fun vs => vs.length = n ∧ ∀ v ∈ vs, P v)) : EvWA a (d1 + d2) (tCons te tr) σ H (fun vs => vs.length = n + 1 ∧ ∀ v ∈ vs, P v) :=
  ewa_mono (ewa_cons h hr) fun vs ⟨x, xs, e, px, l, hx⟩ => by
    subst e
    refine ⟨by rw [List.length_cons, l], fun v hv => ?_⟩
    rcases List.mem_cons.mp hv with rfl | hv
    · exact px
    · exact hx v hv
theorem ew_pi {K : PySem.W.Frag} {σ : L2.St} {H : Hp} {a : Addr} {i : Nat} {E : XK} {te : TE} {m lo hi : Int} (hσ : σ[i]? = some (some (.ref a))) (h : Ev te σ (hid a H) (.int m)) (h0 : 0 < m) (h1 : m < 2 ^ 250) (l : 0 ≤ lo) (u : m ≤ hi + 1) (z : lo = 0) : EvW a 1 (tCall (sp_dr K) [] E (tCons (tVar i) (tCons te tNil))) σ H (PI lo hi) :=
  (ew_drawC hσ h h0 (lt8000 h1)).mono fun v ⟨r, e, r0, r1⟩ => ⟨r, e, by omega, by omega⟩
theorem ew_pisub {σ : L2.St} {H : Hp} {a : Addr} {ta tb : TE} {d : Nat} {lo hi lo' hi' k : Int} (h : EvW a d ta σ H (PI lo hi)) (h' : Ev tb σ (hid a H) (.int k)) (l : lo' ≤ lo - k) (u : hi - k ≤ hi') : EvW a (d + 0) (tOp (rI0 fun i j => .int (i - j)) ta tb) σ H (PI lo' hi') :=
  ew_op (P2 := fun v => v = .int k) h (ew_pure h' rfl) fun x y ⟨r, e, r0, r1⟩ e2 => ⟨.int (r - k), fun H => by subst e e2; exact rv_I0, _, rfl, by omega, by omega⟩
theorem ew_piadd {σ : L2.St} {H : Hp} {a : Addr} {ta tb : TE} {d : Nat} {lo hi lo' hi' k : Int} (h' : Ev ta σ (hid a H) (.int k)) (h : EvW a d tb σ H (PI lo hi)) (l : lo' ≤ k + lo) (u : k + hi ≤ hi') : EvW a (0 + d) (tOp (rI0 fun i j => .int (i + j)) ta tb) σ H (PI lo' hi') :=
  ew_op (P1 := fun v => v = .int k) (ew_pure h' rfl) h fun x y e2 ⟨r, e, r0, r1⟩ => ⟨.int (k + r), fun H => by subst e e2; exact rv_I0, _, rfl, by omega, by omega⟩
theorem given_map (ns : List Int) (f : Int → V) : given ns.length (fun _ => true) (fun i => f (ns.getD i 0)) = ns.map f := by
  rw [given_all]
  refine List.ext_getElem (by simp) fun i h1 h2 => ?_
  simp at h1
  simp [List.getD_eq_getElem?_getD, h1]
def RtOk (ns : List Int) : Prop := ns ≠ [] ∧ ns.length ≤ 4000 ∧ ∀ n ∈ ns, n.natAbs < 2 ^ 1900 ∧ (numT n).length ≤ 640
theorem RtOk.pos {ns : List Int} (h : RtOk ns) : 0 < ns.length := List.length_pos_iff.mpr h.1
theorem RtOk.sum {ns : List Int} (h : RtOk ns) : ((ns.map fun n => S (numT n)).map (·.length)).sum ≤ ns.length * 640 := by
  have e := PySem.StrLaws.sumLen_le (B := 640) (ns.map fun n => S (numT n)) fun y hy => by
    obtain ⟨n, hn, rfl⟩ := List.mem_map.mp hy
    rw [S_len]
    exact (h.2.2 n hn).2
  rw [List.length_map] at e
  exact e
theorem RtOk.fits {ns : List Int} (h : RtOk ns) : ((ns.map fun n => S (numT n)).map (·.length)).sum + (ns.map fun n => S (numT n)).length * (S [44, 32]).length ≤ 16777216 := by
  have e := h.sum
  have h1 := h.2.1
  rw [List.length_map, S_len]
  show _ + ns.length * 2 ≤ _
  omega
theorem RtOk.len {ns : List Int} (h : RtOk ns) : (rowT ns).length + 2 ≤ sizeLine := by
  have e := joinL_len [44, 32] (ns.map numT)
  have e2 := h.sum
  rw [List.map_map] at e2
  have e3 : ((ns.map numT).map (·.length)).sum = (ns.map ((·.length) ∘ fun n => S (numT n))).sum := by
    rw [List.map_map]
    congr 1
  rw [e3, List.length_map] at e
  have h1 := h.2.1
  have e4 : ([44, 32] : List Nat).length = 2 := rfl
  rw [e4] at e
  unfold rowT
  show _ ≤ 2 ^ 24
  omega
def NumOk (z : Int) : Prop := -(10 ^ 60) ≤ z ∧ z ≤ 10 ^ 60
theorem p59 : (10 : Int) ^ Int.toNat 59 = 100000000000000000000000000000000000000000000000000000000000 := by decide
theorem p60 : (10 : Int) ^ 60 = 1000000000000000000000000000000000000000000000000000000000000 := by decide
theorem p60' : (10 : Int) ^ Int.toNat 60 = 1000000000000000000000000000000000000000000000000000000000000 := by decide
theorem mul_lt9 {x y : Int} (hx0 : 0 ≤ x) (hx : x < 10 ^ Int.toNat 9) (hy0 : 0 ≤ y) (hy : y < 10 ^ Int.toNat 9) : 0 ≤ x * y ∧ x * y ≤ 1000000000000000000 := by
  have e : (10 : Int) ^ Int.toNat 9 = 1000000000 := by decide
  rw [e] at hx hy
  refine ⟨Int.mul_nonneg hx0 hy0, ?_⟩
  have := Int.mul_le_mul (show x ≤ 1000000000 by omega) (show y ≤ 1000000000 by omega) hy0 (by decide)
  omega
theorem num_ok {z : Int} (h : NumOk z) : z.natAbs < 2 ^ 1900 ∧ (numT z).length ≤ 640 := by
  unfold NumOk at h
  rw [p60] at h
  have e : (2 : Nat) ^ 240 = 1766847064778384329583297500742918515827483896875618958121606201292619776 := by decide
  have hz : z.natAbs < 2 ^ 240 := by
    rw [e]
    omega
  refine ⟨Nat.lt_of_lt_of_le hz (Nat.pow_le_pow_right (by decide) (by decide)), ?_⟩
  have e61 : (10 : Int) ^ 61 = 10000000000000000000000000000000000000000000000000000000000000 := by decide
  have h0 : -(10 ^ 61) < z := by
    rw [e61]
    omega
  have h1 : z < 10 ^ 61 := by
    rw [e61]
    omega
  have := numT_len (n := z) (k := 61) (by decide) h0 h1
  omega
theorem rt_ok {ns : List Int} (h0 : 0 < ns.length) (h1 : ns.length ≤ 300) (h : ∀ z ∈ ns, NumOk z) : RtOk ns := ⟨List.length_pos_iff.mp h0, by omega, fun n hn => num_ok (h n hn)⟩
theorem num_wide {ns : List Int} (h : ∀ z ∈ ns, NumOk z) : wide 1900 ns := fun n hn => by
  have := h n hn
  unfold NumOk at this
  rw [p60] at this
  have e : (2 : Nat) ^ 240 = 1766847064778384329583297500742918515827483896875618958121606201292619776 := by decide
  have hz : n.natAbs < 2 ^ 240 := by
    rw [e]
    omega
  exact Nat.lt_of_lt_of_le (PySem.Flt.log2_lt_of (k := 240) (by decide) hz) (by decide)
theorem cut_one {ns : List Int} {j : Nat} {x : Int} (h : ns[j]? = some x) : cutV (vi ns) (some (j : Int)) (some ((j : Int) + 1)) = vi [x] := by
  have hj := (List.getElem?_eq_some_iff.mp h).1
  have hx := (List.getElem?_eq_some_iff.mp h).2
  unfold cutV
  rw [show (j : Int) + 1 = ((j + 1 : Nat) : Int) from rfl, HT.sIx_nat, HT.sIx_nat, List.length_map, Nat.min_eq_left (by omega), Nat.min_eq_left (by omega), show j + 1 - j = 1 by omega, ← List.map_drop, ← List.map_take, List.drop_eq_getElem_cons hj, hx]
  rfl
theorem num_len {z : Int} (h : NumOk z) : (numT z).length ≤ 62 := by
  unfold NumOk at h
  rw [p60] at h
  have e61 : (10 : Int) ^ 61 = 10000000000000000000000000000000000000000000000000000000000000 := by decide
  have h0 : -(10 ^ 61) < z := by
    rw [e61]
    omega
  have h1 : z < 10 ^ 61 := by
    rw [e61]
    omega
  exact numT_len (n := z) (k := 61) (by decide) h0 h1
end Bk
namespace Bk
open PySem PySem.Spec PyProof.Rows L2 Evl SX
/-! ### an integer, or a value of another kind -/
def NV (H : Hp) (v : V) (o : Option Int) : Prop := match o with | some m => v = .int m | none => OddV H v
theorem NV.ex {H H' : Hp} {v : V} {o : Option Int} (h : NV H v o) (e : Ex H H') : NV H' v o := by
  cases o with
  | none => exact OddV.ex h e
  | some m => exact h
def inZ (o : Option Int) (lo hi : Int) : Bool := match o with | some m => decide (lo ≤ m) && decide (m ≤ hi) | none => false
theorem nv_opt {H : Hp} (o : Option Int) : NV H (optI o) o := by
  cases o with
  | none => exact .inl rfl
  | some m => rfl
/-! ### words of lists -/
def rInsert : V → List V → Hp → VK → Prop := fun x vs H Q => ∃ (l : Addr) (xs : List V) (i : Int) (y : V), x = .ref l ∧ vs = [.int i, y] ∧ H l = some (.lst xs) ∧ xs.length < sizeLine ∧ 0 ≤ i ∧ i < 2 ^ 63 ∧ Q .non (upd H l (.lst (xs.take i.toNat ++ [y] ++ xs.drop i.toNat)))
theorem mt_insertR {X : Cx} : MtR X "list.insert" rInsert := mt_insert
section
variable {K : PySem.W.Frag} {σ : L2.St} {H : Hp} {ta tb te : TE} {D : Ends} {tz : TS}
theorem s_insert {l : Addr} {xs : List V} {i : Nat} {y : V} (hl : H l = some (.lst xs)) (h : Ev ta σ H (.ref l)) (h1 : Ev tb σ H (.int (i : Int))) (h2 : Ev te σ H y) (hz : xs.length < 100000) (hi : i ≤ 100000) (k : ∀ H1, Ex H H1 → D.nx σ (upd H1 l (.lst (xs.take i ++ [y] ++ xs.drop i)))) : tDrop (tBM K "list" rInsert ta (tCons tb (tCons te tNil))) D σ H :=
  h H (Ex.refl H) _ fun H1 e1 => ⟨.inl ⟨rfl, xs, sq_of (e1 _ _ hl)⟩, h1 H1 e1 _ fun H2 e2 => h2 H2 (e1.trans e2) _ fun H3 e3 => ⟨l, xs, (i : Int), y, rfl, rfl, ((e1.trans e2).trans e3) _ _ hl, sz_lt hz, by omega, by omega, by rw [Int.toNat_natCast]; exact k H3 ((e1.trans e2).trans e3)⟩⟩
theorem s_popAt {l : Addr} {xs : List V} {i : Nat} (hl : H l = some (.lst xs)) (h : Ev ta σ H (.ref l)) (h1 : Ev tb σ H (.int (i : Int))) (hi : i < xs.length) (hz : xs.length ≤ 100000) (k : ∀ H1, Ex H H1 → D.nx σ (upd H1 l (.lst (xs.eraseIdx i)))) : tDrop (tBM K "list" rPopAt ta (tCons tb tNil)) D σ H :=
  h H (Ex.refl H) _ fun H1 e1 => ⟨.inl ⟨rfl, xs, sq_of (e1 _ _ hl)⟩, h1 H1 e1 _ fun H2 e2 => ⟨l, xs, (i : Int), i, xs[i], rfl, rfl, (e1.trans e2) _ _ hl, by omega, by omega, by
    obtain ⟨j, e, ej, _⟩ := atI_get (atI_nat (List.getElem?_eq_getElem hi))
    have e2 : seqIndex? (i : Int) xs.length = some i := by
      unfold seqIndex?
      simp only []
      rw [if_neg (show ¬ (i : Int) < 0 by omega), if_pos (by simp; omega), Int.toNat_natCast]
    exact e2, List.getElem?_eq_getElem hi, k H2 (e1.trans e2)⟩⟩
end
theorem cutV_both (xs : List V) (j k : Nat) : cutV xs (some (j : Int)) (some (k : Int)) = (xs.drop j).take (k - j) := by
  unfold cutV
  rw [HT.sIx_nat, HT.sIx_nat]
  by_cases h : j ≤ xs.length
  · rw [Nat.min_eq_left h]
    by_cases h2 : k ≤ xs.length
    · rw [Nat.min_eq_left h2]
    · rw [Nat.min_eq_right (show xs.length ≤ k by omega), List.take_of_length_le (by rw [List.length_drop]; omega), List.take_of_length_le (by rw [List.length_drop]; omega)]
  · rw [Nat.min_eq_right (show xs.length ≤ j by omega), List.drop_length, List.take_nil, List.drop_eq_nil_of_le (by omega), List.take_nil]
/-! ### split, of any text -/
def prts (sep l : List Nat) : List (List Nat) := TL.spl sep 0 [] l
theorem prts_S {sep l : List Nat} (h : sep ≠ []) (hk : (sep.all (· < 256)) = true) : Txt.split (S l) (S sep) = (prts sep l).map S := split_S h hk
theorem prts_join {sep l : List Nat} (h : sep ≠ []) (hk : (sep.all (· < 256)) = true) : TL.joinL sep (prts sep l) = l := by
  have e := PySem.StrLaws.join_split (S l) (S sep)
  rw [prts_S h hk] at e
  have e2 := congrArg TL.tl e
  rw [TL.tl_join, List.map_map] at e2
  have e3 : (prts sep l).map (TL.tl ∘ S) = prts sep l := by
    rw [show (TL.tl ∘ S) = id from rfl, List.map_id]
  rw [e3] at e2
  exact e2
theorem joinL_sub (sep : List Nat) : ∀ {ps : List (List Nat)} {p : List Nat}, p ∈ ps → ∀ c ∈ p, c ∈ TL.joinL sep ps
  | [], p, h, c, hc => by cases h
  | [q], p, h, c, hc => by
    rw [List.mem_singleton.mp h] at hc
    exact hc
  | q :: r :: s, p, h, c, hc => by
    show c ∈ q ++ (sep ++ TL.joinL sep (r :: s))
    rcases List.mem_cons.mp h with rfl | h
    · exact List.mem_append_left _ hc
    · exact List.mem_append_right _ (List.mem_append_right _ (joinL_sub sep h c hc))
theorem prts_mem {sep l p : List Nat} (h : sep ≠ []) (hk : (sep.all (· < 256)) = true) (hp : p ∈ prts sep l) {c : Nat} (hc : c ∈ p) : c ∈ l := by
  have := joinL_sub sep hp c hc
  rwa [prts_join h hk] at this
theorem joinL_part (sep : List Nat) : ∀ {ps : List (List Nat)} {p : List Nat}, p ∈ ps → p.length ≤ (TL.joinL sep ps).length
  | [], p, h => by cases h
  | [q], p, h => by
    rw [List.mem_singleton.mp h]
    exact Nat.le_refl _
  | q :: r :: s, p, h => by
    show p.length ≤ (q ++ (sep ++ TL.joinL sep (r :: s))).length
    rw [List.length_append, List.length_append]
    rcases List.mem_cons.mp h with rfl | h
    · omega
    · have := joinL_part sep h
      omega
theorem prts_len {sep l p : List Nat} (h : sep ≠ []) (hk : (sep.all (· < 256)) = true) (hp : p ∈ prts sep l) : p.length ≤ l.length := by
  have := joinL_part sep hp
  rwa [prts_join h hk] at this
theorem spl_some (sep : List Nat) : ∀ (l : List Nat) (k : Nat) (acc : List Nat), TL.spl sep k acc l ≠ []
  | [], k, acc => by
    rw [TL.spl_nil]
    simp
  | c :: r, 0, acc => by
    show (if TL.pre sep (c :: r) = true then acc :: TL.spl sep (sep.length - 1) [] r else TL.spl sep 0 (acc ++ [c]) r) ≠ []
    split
    · simp
    · exact spl_some sep r 0 _
  | c :: r, k + 1, acc => by
    show TL.spl sep k acc r ≠ []
    exact spl_some sep r k acc
theorem prts_ne (sep l : List Nat) : prts sep l ≠ [] := spl_some sep l 0 []
theorem prts_pos (sep l : List Nat) : 0 < (prts sep l).length := List.length_pos_iff.mpr (prts_ne sep l)
theorem joinL_count (sep : List Nat) (h : 0 < sep.length) : ∀ ps : List (List Nat), ps.length ≤ (TL.joinL sep ps).length + 1
  | [] => Nat.zero_le _
  | [q] => by show 1 ≤ _; omega
  | q :: r :: s => by
    show (q :: r :: s).length ≤ (q ++ (sep ++ TL.joinL sep (r :: s))).length + 1
    have := joinL_count sep h (r :: s)
    rw [List.length_append, List.length_append, List.length_cons]
    omega
theorem prts_count {sep l : List Nat} (h : sep ≠ []) (hk : (sep.all (· < 256)) = true) : (prts sep l).length ≤ l.length + 1 := by
  have := joinL_count sep (List.length_pos_iff.mpr h) (prts sep l)
  rwa [prts_join h hk] at this
section
variable {K : PySem.W.Frag} {σ : L2.St} {H : Hp} {te ta tb : TE} {a : Addr} {d d1 d2 n : Nat} {D : Ends} {PA : List V → Prop} {P : V → Prop} {t u : TT} {tu tw tz : TS}
/-- xs[j] = a new tuple, drawn -/
theorem sw_setU {xs : List V} {l : Addr} {j : Nat} (hl : H l = some (.lst xs)) (nl : l ≠ a) (h : EvWU a d te σ H PA) (ho : ∀ H1, Ev ta σ H1 (.ref l)) (hi : ∀ H1, Ev tb σ H1 (.int (j : Int))) (hj : j < xs.length) (w : Well H a n) (hn : n + d ≤ 2 ^ 50)
    (k : ∀ p ys H1, H p = none → But a H H1 → Well H1 a (n + d) → H1 p = some (.tup ys) → PA ys → D.nx σ (upd H1 l (.lst (xs.set j (.ref p))))) : tAsg te (gSub ta tb rSetL) D σ H :=
  h n H (But.refl a H) w (by omega) _ fun p ys H1 hp b1 w1 g1 pv => ho H1 H1 (Ex.refl H1) _ fun H2 e2 => hi H2 H2 (Ex.refl H2) _ fun H3 e3 => by
    have e13 := e2.trans e3
    exact ⟨l, xs, (j : Int), j, rfl, rfl, e13 _ _ (b1 _ _ nl hl), ixN_nat (by omega), k p ys H3 hp (b1.trans (But.ex e13)) (w1.ex e13) (e13 _ _ g1) pv⟩
/-- if draw.. == c and test: .. -/
theorem sw_ifAnd {b : Bool} (h : EvW a d te σ H (fun v => ∃ b, v = .bl b)) (hb : ∀ H1, But a H H1 → EvT u σ H1 b) (w : Well H a n) (l : n + d ≤ 2 ^ 50) (k1 : b = true → ∀ H1, But a H H1 → Well H1 a (n + d) → tu D σ H1)
    (k2 : ∀ H1, But a H H1 → Well H1 a (n + d) → tw D σ H1) : tIfS (tAnd (tTest te) u) tu tw D σ H :=
  h n H (But.refl a H) w l _ fun v H2 b2 w2 ⟨c, e⟩ => ⟨c, e, by
    cases c with
    | true =>
      refine hb H2 b2 H2 (Ex.refl H2) _ fun H3 e3 => ?_
      cases b with
      | true => exact iteT (k1 rfl H3 (b2.trans (But.ex e3)) (w2.ex e3))
      | false => exact iteF (k2 H3 (b2.trans (But.ex e3)) (w2.ex e3))
    | false => exact iteF (k2 H2 b2 w2)⟩
end
end Bk
namespace Bk
open PySem PySem.Spec PyProof.Rows L2 Evl
/-! ### several except clauses, some of which keep the error by a name -/
def wKeptM (K : PySem.W.Frag) (Wout : WX) (D : Ends) : List (Value × Option Nat × TS) → WX
  | [] => Wout
  | (c, some i, ts) :: r => fun cls d σ H => ∃ b, PySem.W.exmOne K cls c = some b ∧ (b = true → ∀ a, H a = none → ts { nx := fun σ' H' => D.nx (σ'.set i none) H', rt := D.rt, bk := fun σ' H' => D.bk (σ'.set i none) H', ct := fun σ' H' => D.ct (σ'.set i none) H' } (σ.set i (some (.ref a))) (upd H a (ExK cls d a))) ∧
    (b = false → wKeptM K Wout D r cls d σ H)
  | (c, none, ts) :: r => fun cls d σ H => ∃ b, PySem.W.exmOne K cls c = some b ∧ (b = true → ts D σ H) ∧ (b = false → wKeptM K Wout D r cls d σ H)
inductive HdsK (X : Cx) : List ExceptHandler → List (Value × Option Nat × TS) → Prop
  | nil : HdsK X [] []
  | named {x n : Str} {c : Value} {i : Nat} {ts : TS} {b₀ : Stmt} {suite : List Stmt} {np pos' : Pos} {hds : List ExceptHandler} {l : List (Value × Option Nat × TS)} (hc : Names X x c) (hi : X.N[i]? = some n) (hln : X.env.kindOf n = some .local)
      (hsu : ∀ (a : Addr) (pn : List (Addr × Obj)), PSs (X.suite a pn) (b₀ :: suite) ts) (r : HdsK X hds l) :
      HdsK X (.ExceptHandler (some (.Name x np)) (some n) (b₀ :: suite) pos' :: hds) ((c, some i, ts) :: l)
  | bare {x : Str} {c : Value} {ts : TS} {b₀ : Stmt} {suite : List Stmt} {np pos' : Pos} {hds : List ExceptHandler} {l : List (Value × Option Nat × TS)} (hc : Names X x c)
      (hsu : ∀ (a : Addr) (pn : List (Addr × Obj)), PSs (X.suite a pn) (b₀ :: suite) ts) (r : HdsK X hds l) :
      HdsK X (.ExceptHandler (some (.Name x np)) none (b₀ :: suite) pos' :: hds) ((c, none, ts) :: l)
section
variable {X : Cx} {body : List Stmt} {h₀ : ExceptHandler} {hds : List ExceptHandler} {l : List (Value × Option Nat × TS)} {pos : Pos} {tb : WX → TS} {Wout : WX}
theorem ps_try_keptM (hs : X.stack = X.env :: X.outer) (hf : X.env.frame = some X.env.locals) (hex : X.ex = []) (hN : X.N.Nodup) (tk : Takes X Wout)
    (hb : ∀ (W : WX) (pn : List (Addr × Obj)) (xe : Value → Shared → Prop), Takes (X.tr pn xe) W → PassesOwn (model X.prog X.w) X.A X.env xe → PSs (X.tr pn xe) body (tb W))
    (hh : HdsK X (h₀ :: hds) l) : PS X (.Try body (h₀ :: hds) [] [] pos) (fun D σ H => tb (wKeptM X.K Wout D l) D σ H) := by
  refine ⟨fun pins s σ H D I h => ?_⟩
  have ok0 := I.ok
  have frm : X.A.frames = some (X.env :: X.outer) := by rw [ok0.frames, hs]
  refine wpAny_Try_except ?_
  have run := (hb (wKeptM X.K Wout D l) (X.pn ++ pins) (fun ev t1 => wpAny (model X.prog X.w) X.A (noteFrame ev X.env) (fun _ t2 => wpAny (model X.prog X.w) X.A (setFlight ev none) (fun _ t3 =>
    wpAny (model X.prog X.w) X.A (handleBy ev X.env (h₀ :: hds)) (SP X pins D) X.xe t3) X.xe t2) X.xe t1) (fun u t' air => ?_) PassesOwn.looking).run [] s σ H D (I.toTry _) h
  · refine wpAny_mono run (fun fl t1 hfl => ?_) (fun _ _ he => he)
    cases fl with
    | next =>
      obtain ⟨σ', H', J, q⟩ := hfl
      exact wpAny_execs_nil ⟨σ', H', J.ofTry ok0, q⟩
    | brk =>
      obtain ⟨σ', H', J, q⟩ := hfl
      exact ⟨σ', H', J.ofTry ok0, q⟩
    | cont =>
      obtain ⟨σ', H', J, q⟩ := hfl
      exact ⟨σ', H', J.ofTry ok0, q⟩
    | ret u =>
      obtain ⟨v, σ', H', J, r, q⟩ := hfl
      exact ⟨v, σ', H', J.ofTry ok0, r, q⟩
  · obtain ⟨a, B, sJ, pins', σ', H', cls, d, rfl, Jt, nb, up, sky, na, eos, bare, w⟩ := air
    have J : Inv X pins σ' H' sJ := Jt.ofTry ok0
    have skyE : Sky B (X.env :: X.outer) a (Zc cls d) X.env.locals t'.heap := by rw [← hs]; exact sky
    show wpAny (model X.prog X.w) X.A (noteFrame (.ref a) X.env) _ _ _
    refine Sky.land Zc.steady frm hf skyE fun g3 f3 u3 => ?_
    have J3 : Inv X pins σ' H' { t' with heap := g3 } := J.landed nb f3.1 (up.trans u3) eos bare
    obtain ⟨o3, v3, ho3, hz3, hd3⟩ := f3.there
    have notIn : ∀ {hh : Heap} {o : Obj} {vs : Array Value}, hh.FunFrames B (X.env :: X.outer) → hh.get? a = some o → o.data = .fields vs → a ∉ frs (X.env :: X.outer) := fun {hh o vs} ff e dd hm => by
      obtain ⟨_, o', e', nf⟩ := ff.mem hm
      rw [e] at e'
      cases e'
      exact nf _ dd
    have nfr := notIn f3.2.2.1 ho3 hd3
    have nL : a ≠ X.env.locals := fun z => nfr (List.mem_filterMap.mpr ⟨X.env, List.mem_cons_self, by rw [hf, z]⟩)
    have nJ : sJ.heap.get? a = none := by
      cases q : sJ.heap.get? a with
      | none => rfl
      | some o =>
        have r := nb a o q (by rw [show frs (X.tr (X.pn ++ pins) _).stack = frs (X.env :: X.outer) by rw [← hs]]; exact nfr)
        rw [f3.2.1] at r
        cases r
    have n0 : X.s_0.heap.get? a = none := by
      cases q : X.s_0.heap.get? a with
      | none => rfl
      | some o =>
        obtain ⟨o', r⟩ := J.base.there a o q (by rw [hex]; exact List.not_mem_nil)
        rw [nJ] at r
        cases r
    have nP : ∀ p ∈ X.pn ++ pins, p.1 ≠ a := fun p hp z => by
      have r := (J.pin p hp).1
      rw [z, nJ] at r
      cases r
    have lt : PySem.W.Looks (model X.prog X.w) g3 (typeOf (.ref a)) cls := fun A Q E s k q => wpAny_typeOf_ref (k _ _ ho3) (by rw [hz3.1]; exact q)
    have S3 := suite0 J3 a
    have asks : ∀ {x : Str} {c : Value} {np : Pos}, Names X x c → ∀ {Q : Value → Shared → Prop} {E : Value → Shared → Prop}, Q c { t' with heap := g3 } → wpAny (model X.prog X.w) (X.A.mark (some (.ref a))) (eval (.Name x np) X.env) Q E { t' with heap := g3 } := fun {x c np} hc {Q E} q => by
      obtain ⟨hg, hdbg, hm | ⟨hm, hv, hnn⟩⟩ := hc
      · exact ld_glob (X := X.suite a (X.pn ++ pins)) S3 hg hm q hdbg
      · exact ld_blt (X := X.suite a (X.pn ++ pins)) S3 hg hm hv q hnn hdbg
    have go : ∀ {hds' : List ExceptHandler} {l' : List (Value × Option Nat × TS)}, HdsK X hds' l' → wKeptM X.K Wout D l' cls d σ' H' →
        wpAny (model X.prog X.w) X.A (handleBy (.ref a) X.env hds') (SP X pins D) X.xe { t' with heap := g3 } := by
      intro hds' l' hk
      induction hk with
      | nil =>
        intro w
        refine wpAny_handleBy_nil ?_
        obtain ⟨y1, y2, y3, oe, vs, T, oT, ts', he, hz, hd, h1, hr⟩ := id f3
        unfold PySem.passOn
        refine wpAny_bind (wpAny_field he hd h1 ?_)
        rw [if_neg (show ¬ ((Value.ref T == Value.none) = true) from by simp)]
        have onward : wpAny (model X.prog X.w) X.A (setFlight (.ref a) X.env.frame) (fun _ s4 => wpAny (model X.prog X.w) X.A (throw (.ref a) : Sem Flow) (SP X pins D) X.xe s4) X.xe { t' with heap := g3 } := by
          rw [hf]
          refine HandSPX.setFlight_upZ f3 fun g4 hh4 u4 => wpAny_throw (tk _ _ ?_)
          exact ⟨a, B, sJ, pins, σ', H', cls, d, rfl, J, nb, (up.trans u3).trans u4, .inr (.inr (by rw [hs]; exact hh4)), na, eos, bare, w⟩
        first
          | exact wpAny_bind (wpAny_pure (wpAny_bind onward))
          | exact wpAny_bind onward
      | @named x n c i ts b₀ suite np pos' hds2 l2 hc hi hln hsu r ih =>
        intro w
        obtain ⟨b, hb1, hyes, hno⟩ := w
        have isLoc : Loc X.env.scope n := .inl hln
        refine wpAny_handleBy_cons (codeAny_handlers_test ?_) (by intro q; cases q)
        have lm := PySem.W.exm_one (M := model X.prog X.w) (J3.kIn) lt hb1
        refine asks hc (lm.here ?_)
        cases b with
        | true =>
          refine codeAny_handlers_suite_as ?_
          refine HandSPX.lands_againZ f3 fun g4 f4 u4 => ?_
          have J4 : Inv X pins σ' H' { t' with heap := g4 } := J.landed nb f4.1 ((up.trans u3).trans u4) eos bare
          obtain ⟨o4, v4, ho4, hz4, hd4⟩ := f4.there
          have S4 := suite0 (adopt J4 ho4 hz4 hd4 na n0 nL nP) a
          refine store_ok (X := X.suite a (X.pn ++ pins)) (v := .ref a) S4 hN hi isLoc rfl (fun s5 S5 => ?_) (.inr hln)
          refine wpAny_mono ((hsu a (X.pn ++ pins)).run [] s5 _ _ _ S5 (hyes rfl a na)) (fun fl s6 hfl => ?_) (fun _ _ z => False.elim z)
          have away : ∀ {σ6 : L2.St} {H6 : Hp} {Q : Shared → Prop}, Inv (X.suite a (X.pn ++ pins)) [] σ6 H6 s6 → (∀ s7, Inv X pins (σ6.set i none) H6 s7 → Q s7) →
              wpAny (model X.prog X.w) X.A (do bindName X.env n .none; unbindBehindTheSuite X.env n pos') (fun _ s7 => Q s7) X.xe s6 := fun {σ6 H6 Q} S6 hq => gone_ok (unsuite0 S6 ok0) hN hi hln hq
          cases fl with
          | next =>
            obtain ⟨σ6, H6, S6, q6⟩ := hfl
            exact away S6 fun s7 J7 => ⟨_, _, J7, q6⟩
          | brk =>
            obtain ⟨σ6, H6, S6, q6⟩ := hfl
            exact away S6 fun s7 J7 => ⟨_, _, J7, q6⟩
          | cont =>
            obtain ⟨σ6, H6, S6, q6⟩ := hfl
            exact away S6 fun s7 J7 => ⟨_, _, J7, q6⟩
          | ret u =>
            obtain ⟨v6, σ6, H6, S6, r6, q6⟩ := hfl
            exact away S6 fun s7 J7 => ⟨_, _, _, J7, r6, q6⟩
        | false =>
          show wpAny _ X.A (handleBy (.ref a) X.env hds2) _ _ _
          exact ih (hno rfl)
      | @bare x c ts b₀ suite np pos' hds2 l2 hc hsu r ih =>
        intro w
        obtain ⟨b, hb1, hyes, hno⟩ := w
        refine wpAny_handleBy_cons (codeAny_handlers_test ?_) (by intro q; cases q)
        have lm := PySem.W.exm_one (M := model X.prog X.w) (J3.kIn) lt hb1
        refine asks hc (lm.here ?_)
        cases b with
        | true =>
          refine codeAny_handlers_suite ?_
          refine HandSPX.lands_againZ f3 fun g4 f4 u4 => ?_
          have J4 : Inv X pins σ' H' { t' with heap := g4 } := J.landed nb f4.1 ((up.trans u3).trans u4) eos bare
          have S4 := suite0 J4 a
          refine wpAny_mono ((hsu a (X.pn ++ pins)).run [] _ _ H' _ S4 (hyes rfl)) (fun f s6 hsp => ?_) (fun _ _ z => False.elim z)
          cases f with
          | next =>
            obtain ⟨σ6, H6, S6, q6⟩ := hsp
            exact ⟨_, _, unsuite0 S6 ok0, q6⟩
          | brk =>
            obtain ⟨σ6, H6, S6, q6⟩ := hsp
            exact ⟨_, _, unsuite0 S6 ok0, q6⟩
          | cont =>
            obtain ⟨σ6, H6, S6, q6⟩ := hsp
            exact ⟨_, _, unsuite0 S6 ok0, q6⟩
          | ret u =>
            obtain ⟨v6, σ6, H6, S6, r6, q6⟩ := hsp
            exact ⟨_, _, _, unsuite0 S6 ok0, r6, q6⟩
        | false =>
          show wpAny _ X.A (handleBy (.ref a) X.env hds2) _ _ _
          exact ih (hno rfl)
    exact go hh w
end
end Bk
namespace Bk
open PySem PySem.Spec PyProof.Rows L2 Evl SX
/-! ### values without a text; new tuples of any values; lists of truths compared; parts of texts -/
def NotS (H : Hp) (x : V) : Prop := x = .non ∨ (∃ m, x = .int m) ∨ (∃ c, x = .bl c) ∨ (∃ a xs, x = .ref a ∧ H a = some (.lst xs)) ∨ (∃ a xs, x = .ref a ∧ H a = some (.tup xs)) ∨ (∃ a kvs, x = .ref a ∧ H a = some (.dK kvs))
theorem NotS.ex {H H' : Hp} {x : V} (h : NotS H x) (e : Ex H H') : NotS H' x := by
  rcases h with h | h | h | ⟨a, xs, h, g⟩ | ⟨a, xs, h, g⟩ | ⟨a, xs, h, g⟩
  · exact .inl h
  · exact .inr (.inl h)
  · exact .inr (.inr (.inl h))
  · exact .inr (.inr (.inr (.inl ⟨a, xs, h, e _ _ g⟩)))
  · exact .inr (.inr (.inr (.inr (.inl ⟨a, xs, h, e _ _ g⟩))))
  · exact .inr (.inr (.inr (.inr (.inr ⟨a, xs, h, e _ _ g⟩))))
theorem kb_int_str' : kitB "int" "str" = some false := by decide +kernel
theorem kb_none_str' : kitB "NoneType" "str" = some false := by decide +kernel
theorem kb_bool_str' : kitB "bool" "str" = some false := by decide +kernel
theorem kb_list_str' : kitB "list" "str" = some false := by decide +kernel
theorem kb_tuple_str' : kitB "tuple" "str" = some false := by decide +kernel
theorem kb_dict_str' : kitB "dict" "str" = some false := by decide +kernel
section
variable {K : PySem.W.Frag} {σ : L2.St} {H : Hp} {ta tb te tl : TE} {t : TA} {D : Ends} {tu tz : TS} {P : V → Hp → Prop} {PL : List V → Hp → Prop} {n : Nat}
theorem ev_notS {x : V} (h : Ev ta σ H x) (o : NotS H x) : Ev (tCB (rIsi K) (tCons ta (tCons (tC (.ty "str")) tNil))) σ H (.bl false) := by
  rcases o with rfl | ⟨m, rfl⟩ | ⟨c, rfl⟩ | ⟨a, xs, rfl, g⟩ | ⟨a, xs, rfl, g⟩ | ⟨a, kvs, rfl, g⟩
  · exact ev_isi h (fun _ _ => .base .non) kb_none_str'
  · exact ev_isi h (fun _ _ => .base (.int m)) kb_int_str'
  · exact ev_isi h (fun _ _ => .base (.bl c)) kb_bool_str'
  · exact ev_isi h (fun _ e => .base (.lst (e _ _ g))) kb_list_str'
  · exact ev_isi h (fun _ e => .base (.tup (e _ _ g))) kb_tuple_str'
  · exact ev_isi h (fun _ e => .base (.dK (e _ _ g))) kb_dict_str'
def EvUP (te : TE) (σ : L2.St) (H : Hp) (P : List V → Hp → Prop) : Prop := ∀ H1, Ex H H1 → ∀ Q : VK, (∀ p xs H2, H1 p = none → Ex H1 H2 → H2 p = some (.tup xs) → P xs H2 → Q (.ref p) H2) → te σ H1 Q
theorem eup_tup (mono : ∀ v H1 H2, Ex H1 H2 → P v H1 → P v H2) (h : EvAP t σ H (AllP P n)) (hn : n ≤ 100000) : EvUP (tTup t) σ H (AllP P n) := fun H1 e Q q =>
  h H1 e _ fun xs H2 e2 ⟨l, px⟩ => ⟨sz_of (by omega), fun p hp => q p xs _ (fresh_back e2 hp) (e2.trans (Ex.new hp)) upd_same ⟨l, fun v hv => mono _ _ _ (Ex.new hp) (px v hv)⟩⟩
theorem q_forUP {j : Nat} (h : EvUP tl σ H PL) (Pv : Addr → List V → Nat → L2.St → Hp → Prop) (h0 : ∀ p xs H1, H p = none → Ex H H1 → H1 p = some (.tup xs) → PL xs H1 → Pv p xs 0 σ H1)
    (hl : ∀ p xs i σ' H', i ≤ xs.length → Pv p xs i σ' H' → SqT K H' p xs)
    (hs : ∀ p xs i x σ' H', xs[i]? = some x → Pv p xs i σ' H' → tu { D with nx := Pv p xs (i + 1), ct := Pv p xs (i + 1), bk := tz D } (σ'.set j (some x)) H') (hd : ∀ p xs σ' H', Pv p xs xs.length σ' H' → tz D σ' H') : tSeq (tFor (iTup K tl) (gName j) tu) tz D σ H :=
  h H (Ex.refl H) _ fun p xs H1 hp e h1 px => ⟨p, rfl, ⟨xs, st_of h1⟩, for_tup (D := { D with nx := tz D }) (Pv p xs) (h0 p xs H1 hp e h1 px) (hl p xs) (fun i x σ' H' hx k => hs p xs i x σ' H' hx k) (hd p xs)⟩
theorem ev_cVL {sp : Sp} {E : XK} {x v : V} {xs : List V} (h1 : Ev ta σ H x) (h2 : EvL tb σ H xs) (hs : ∀ p H1, Ex H H1 → H1 p = some (.lst xs) → SpV sp [x, .ref p] H1 v) : Ev (tCall sp [] E (tCons ta (tCons tb tNil))) σ H v := fun H1 e Q q =>
  h1 H1 e _ fun H2 e2 => h2 H2 (e.trans e2) _ fun p H3 hp e3 g3 => hs p H3 ((e.trans e2).trans e3) g3 H3 (Ex.refl H3) Q (fun H4 e4 => q H4 ((e2.trans e3).trans e4)) E
theorem eu_slT {tl th : TO} {a : Addr} {xs : List V} {lo hi : Option Int} (h : Ev te σ H (.ref a)) (h1 : EvO tl σ H lo) (h2 : EvO th σ H hi) (hs : SqT K H a xs) (hw : ¬ (HT.sIx xs.length 0 lo = 0 ∧ HT.sIx xs.length xs.length hi = xs.length)) : EvU (tSl (rSlT K) te tl th) σ H (cutV xs lo hi) := fun H1 e _ q =>
  h H1 e _ fun H2 e2 => h1 H2 (e.trans e2) _ fun H3 e3 => h2 H3 ((e.trans e2).trans e3) _ fun H4 e4 =>
    ⟨a, xs, rfl, ex_t (((e.trans e2).trans e3).trans e4) hs, hw, fun p hp => q p _ (fresh_back ((e2.trans e3).trans e4) hp) (((e2.trans e3).trans e4).trans (Ex.new hp)) upd_same⟩
theorem el_repV {xs : List V} {n : Int} {p : Addr} (ha : Ev ta σ H (.ref p)) (g : H p = some (.lst xs)) (hb : ∀ H1, Ex H H1 → Ev tb σ H1 (.int n)) (h0 : 0 ≤ n) (hz : xs.length * n.toNat ≤ 100000) (hn : n ≤ 100000) : EvL (tOp rRep ta tb) σ H (List.replicate n.toNat xs).flatten := fun H1 e Q q =>
  ha H1 e _ fun H2 e2 => hb H2 (e.trans e2) H2 (Ex.refl H2) _ fun H3 e3 => ⟨p, n, xs, rfl, rfl, ((e.trans e2).trans e3) _ _ g, by omega, by omega, sz_of hz, fun l hl => q l _ (fresh_back (e2.trans e3) hl) ((e2.trans e3).trans (Ex.new hl)) upd_same⟩
theorem ev_joinL {ps : List (List Nat)} {sep : List Nat} (h : Ev ta σ H (.str (S sep))) (h' : EvL tb σ H (ps.map fun l => V.str (S l))) (hz : (ps.map (·.length)).sum + ps.length * sep.length ≤ 16777216) : Ev (tM1 (rJoin K) ta tb) σ H (.str (S (TL.joinL sep ps))) := by
  refine ev_is (ev_joinN (ys := ps.map S) h (el_is h' (by rw [List.map_map]; rfl)) ?_) (congrArg V.str (join_S sep ps))
  rw [List.map_map, List.length_map, S_len]
  have e : ps.map ((·.length) ∘ S) = ps.map (·.length) := List.map_congr_left fun l _ => S_len l
  rw [e]
  exact hz
/-! lists of truths -/
def dbs (bs : List Bool) : List PyData := bs.map .bool
theorem dpAll_bls (K : PySem.W.Frag) (H : Hp) : ∀ bs : List Bool, DpAll K H (bs.map .bl) (dbs bs)
  | [] => .nil
  | b :: bs => .cons (.bl b) (dpAll_bls K H bs)
theorem bls_ok : ∀ bs : List Bool, PyData.canLayAll0 (dbs bs) = true ∧ PyData.depthAll (dbs bs) = 0
  | [] => ⟨rfl, rfl⟩
  | b :: bs => by
    obtain ⟨x, y⟩ := bls_ok bs
    constructor
    · show PyData.canLayAll0 (.bool b :: dbs bs) = true
      rw [PyData.canLayAll0, PyData.canLay0, x]
      rfl
    · show PyData.depthAll (.bool b :: dbs bs) = 0
      rw [PyData.depthAll, PyData.depth, y]
      rfl
theorem bls_sh (bs : List Bool) : SeqAt.shaped (.list (dbs bs)) = true := by
  unfold SeqAt.shaped
  rw [PyData.canLay0, PyData.depth, (bls_ok bs).1, (bls_ok bs).2]
  rfl
theorem bls_eqv : ∀ bs : List Bool, PyData.eqvAll (dbs bs) (dbs bs) = true
  | [] => rfl
  | b :: bs => by
    show PyData.eqvAll (.bool b :: dbs bs) (.bool b :: dbs bs) = true
    rw [PyData.eqvAll, PyData.eqv, bls_eqv bs]
    simp
theorem ev_neBls {p : Addr} {bs : List Bool} (ha : Ev ta σ H (.ref p)) (g : SqL K H p (bs.map .bl)) (hb : EvL tb σ H (bs.map .bl)) : Ev (tOp (rNeD K) ta tb) σ H (.bl false) := fun H1 e Q k =>
  ha H1 e _ fun H2 e2 => hb H2 (e.trans e2) _ fun q H3 _ e3 g3 => ⟨.list (dbs bs), .list (dbs bs), .lst (ex_l ((e.trans e2).trans e3) g) (dpAll_bls K H3 bs), .lst (sq_of g3) (dpAll_bls K H3 bs), bls_sh bs, bls_sh bs, by
    rw [PyData.eqv, bls_eqv]
    exact k H3 (e2.trans e3)⟩
end
/-! ### a def called with nothing -/
section
variable {X : Cx} {CX : CXT} {k : Nat} {f : Addr} {fd : FuncData} {ps : List Str} {sp : Sp} {E : XK} {x : Str} {p pos : Pos}
theorem callG0 (F : FnG X.prog X.w X.K X.mg X.base CX k f fd ps sp) (hr : Rm k X.A) (hg : Gl X x) (hm : X.mg x = some (.ref f)) (hk : PySem.W.keepIn X.K (.ref f) = true) (hb : Binds X.K fd ps []) (hx : Passes CX X E)
    (hdb : (x == ("__debug__" : Str)) = false := by decide) : PE X (.Call (.Name x p) [] [] pos) (tCall sp [] E tNil) := by
  refine ⟨fun pins s σ H Q I h => wpAny_Call_Name_kw (ld_glob I hg hm ?_ hdb)⟩
  refine PySem.W.callWith_K0 (first := []) I.kIn hk ?_
  exact runG (us := []) (vs := []) F hr hb .nil hx I .nil h
end
/-! ### joined parts, split -/
theorem free_no43 : ∀ {p : List Nat}, 43 ∉ p → free [32, 43, 32] p = true
  | [], _ => rfl
  | c :: r, h => by
    have hr : 43 ∉ r := fun m => h (List.mem_cons_of_mem _ m)
    have ih := free_no43 hr
    have e : TL.pre [32, 43, 32] (c :: (r ++ [32, 43, 32])) = false := by
      show ((c :: (r ++ [32, 43, 32])).take 3 == [32, 43, 32]) = false
      refine beq_eq_false_iff_ne.mpr fun z => ?_
      cases r with
      | nil => simp at z
      | cons d r =>
        simp only [List.cons_append, List.take_succ_cons, List.cons.injEq] at z
        exact hr (by rw [z.2.1]; exact List.mem_cons_self ..)
    show (!(TL.pre [32, 43, 32] (c :: (r ++ [32, 43, 32]))) && free [32, 43, 32] r) = true
    rw [e, ih]
    rfl
theorem free_last {sep p : List Nat} (h : free sep p = true) : ∀ i, i < p.length → TL.pre sep (p.drop i) = false := fun i hi => by
  have a := free_at h [] i hi
  rw [List.append_nil] at a
  cases e : TL.pre sep (p.drop i) with
  | false => rfl
  | true =>
    have e1 : (p.drop i).take sep.length = sep := eq_of_beq e
    have hl : sep.length ≤ (p.drop i).length := by
      have := congrArg List.length e1
      rw [List.length_take] at this
      omega
    rw [List.drop_append_of_le_length (by omega), pre_mono hl, e] at a
    cases a
theorem prts_free {sep : List Nat} (hs : sep ≠ []) : ∀ {ps : List (List Nat)}, ps ≠ [] → (∀ p ∈ ps, free sep p = true) → prts sep (TL.joinL sep ps) = ps
  | [], h, _ => absurd rfl h
  | [p], _, hp => by
    show TL.spl sep 0 [] p = [p]
    rw [TL.spl_last (free_last (hp p (List.mem_singleton.mpr rfl))), List.nil_append]
  | p :: q :: r, _, hp => by
    show TL.spl sep 0 [] (p ++ (sep ++ TL.joinL sep (q :: r))) = p :: q :: r
    rw [spl_free _ hs (hp p (List.mem_cons_self ..))]
    exact congrArg (p :: ·) (prts_free hs (by simp) fun z hz => hp z (List.mem_cons_of_mem _ hz))
end Bk
namespace Bk
open PySem PySem.Spec PyProof.Rows L2 Evl SX
/-! ### texts sign by sign; the numbers' texts back -/
def rNotInS : R2 := fun x y H Q => ∃ (c : Nat) (z : Str), x = .str ⟨#[c]⟩ ∧ y = .str z ∧ Q (.bl (!decide (c ∈ z.cps.toList))) H
theorem op_notInS {X : Cx} : OpR X (compareOp .NotIn) rNotInS := op_notIn_sign
theorem given_filterN {α : Type} (xs : List α) (d : α) (p : α → Bool) (g : α → V) : given xs.length (fun j => p (xs.getD j d)) (fun j => g (xs.getD j d)) = (xs.filter p).map g := by
  have e : xs = (List.range xs.length).map fun j => xs.getD j d := by
    refine List.ext_getElem? fun i => ?_
    rw [List.getElem?_map]
    by_cases hi : i < xs.length
    · rw [List.getElem?_range hi, List.getElem?_eq_getElem hi]
      show _ = some (xs.getD i d)
      rw [List.getD_eq_getElem?_getD, List.getElem?_eq_getElem hi]
      rfl
    · rw [List.getElem?_eq_none (by omega), List.getElem?_eq_none (by rw [List.length_range]; omega)]
      rfl
  have e2 : xs.filter p = ((List.range xs.length).filter fun j => p (xs.getD j d)).map fun j => xs.getD j d := by
    conv => lhs; rw [e]
    rw [List.filter_map]
    rfl
  unfold given
  rw [e2, List.map_map]
  rfl
theorem S_sign (c : Nat) : (⟨#[c]⟩ : Str) = S [c] := rfl
theorem S_size (l : List Nat) : (S l).cps.size = l.length := S_len l
theorem S_get {l : List Nat} {i c : Nat} (h : (S l).cps[i]? = some c) : l[i]? = some c := by
  rw [← Array.getElem?_toList] at h
  exact h
theorem mem_S {c : Nat} {l : List Nat} : decide (c ∈ (S l).cps.toList) = decide (c ∈ l) := rfl
section
variable {K : PySem.W.Frag} {σ : L2.St} {H : Hp} {ta tb tl te t : TE} {tt : TT}
/-- [sign for sign in text if ..] -/
theorem el_lcS {j : Nat} {ws : List Nat} {l : List Nat} (f : Nat → Bool) (h : Ev tl σ H (.str (S l))) (hz : l.length ≤ 40000) (hw : ∀ x, wipe ((wipe σ ws).set j (some x)) ws = wipe σ ws)
    (ht : ∀ (c : Nat) H1, Ex H H1 → c ∈ l → EvT tt ((wipe σ ws).set j (some (.str (S [c])))) H1 (f c)) (he : ∀ (c : Nat) H1, Ex H H1 → c ∈ l → f c = true → Ev te ((wipe σ ws).set j (some (.str (S [c])))) H1 (.str (S [c]))) :
    EvL (tLc (iStr tl) (gName j) tt te ws) σ H (vs ((l.filter f).map fun c => [c])) := by
  have e0 : vs ((l.filter f).map fun c => [c]) = given l.length (fun i => f (l.getD i 0)) (fun i => V.str (S [l.getD i 0])) := by
    rw [given_filterN l 0 f fun c => V.str (S [c])]
    unfold vs
    rw [List.map_map]
    rfl
  rw [e0]
  intro H0 e Q q
  refine h H0 e _ fun H1 e1 => ⟨S l, rfl, fun Dl hD => ?_⟩
  refine lc_it (walk_str (z := S l)) (Cw H1 (fun i => f (l.getD i 0)) (fun i => V.str (S [l.getD i 0])) Dl) ⟨hD, Ex.new hD, upd_same⟩ (fun _ _ _ _ => trivial) (fun i x H2 H3 hi p y => ?_) fun H' p => q Dl H' (fresh_back e1 (by rw [S_size] at p; exact p.1)) (e1.trans (by rw [S_size] at p; exact p.2.1)) (by rw [S_size] at p; exact p.2.2)
  obtain ⟨rfl, c, hc, rfl⟩ := y
  have hg := S_get hc
  have hm := List.mem_of_getElem? hg
  have hd : l.getD i 0 = c := by rw [List.getD_eq_getElem?_getD, hg]; rfl
  rw [S_size] at hi
  refine ⟨hw _, cw_turn p (by omega) ?_ ?_⟩
  · show EvT tt _ H1 (f (l.getD i 0))
    rw [hd]
    exact ht c H1 (e.trans e1) hm
  · intro hf
    have hf' : f (l.getD i 0) = true := hf
    rw [hd] at hf'
    show Ev te _ H1 (V.str (S [l.getD i 0]))
    rw [hd]
    exact he c H1 (e.trans e1) hm hf'
theorem ev_neTT {as bs : List (List Nat)} (ha : strsOk as) (hb : strsOk bs) (h1 : EvL ta σ H (vs as)) (h2 : EvL tb σ H (vs bs)) : Ev (tOp (rNeD K) ta tb) σ H (.bl (!decide (as = bs))) := fun H1 e Q k =>
  h1 H1 e _ fun p H2 _ e2 g2 => h2 H2 (e.trans e2) _ fun q H3 _ e3 g3 => ⟨.list (ds as), .list (ds bs), .lst (sq_of (e3 _ _ g2)) (dpAll_strs K H3 as), .lst (sq_of g3) (dpAll_strs K H3 bs), shaped_strs ha, shaped_strs hb, by
    rw [PyData.eqv, eqvAll_strs]
    exact k H3 (e2.trans e3)⟩
theorem ev_notInS {c : Nat} {l : List Nat} (h1 : Ev ta σ H (.str (S [c]))) (h2 : Ev tb σ H (.str (S l))) : Ev (tOp rNotInS ta tb) σ H (.bl (!decide (c ∈ l))) := fun H1 e Q k =>
  h1 H1 e _ fun H2 e2 => h2 H2 (e.trans e2) _ fun H3 e3 => ⟨c, S l, rfl, rfl, k H3 (e2.trans e3)⟩
theorem rv_ixTx {l : List Nat} {i : Int} {c : Nat} (hl : l.length ≤ 16000000) (h : atI l i = some c) : RV rIxS (.str (S l)) (.int i) H (.str (S [c])) := fun H1 e Q k => ⟨S l, i, c, rfl, rfl, by rw [S_len]; show _ ≤ 2 ^ 24; omega, h, k H1 (Ex.refl H1)⟩
end
/-! the numbers' texts back -/
theorem natT_inv {l : List Nat} {n : Nat} (h : natT l = some n) : TL.numL n = l := by
  unfold natT at h
  split at h
  · rename_i c
    obtain ⟨h1, h2, h3⟩ := c
    injection h with h
    subst h
    have ad : NumText.AllDigits l := fun c hc => by
      have := List.all_eq_true.mp h1 c hc
      unfold dg at this
      simp only [Bool.and_eq_true, decide_eq_true_eq] at this
      exact this
    obtain ⟨c, r, rfl⟩ : ∃ c r, l = c :: r := by
      cases l with
      | nil => exact absurd rfl h2
      | cons c r => exact ⟨c, r, rfl⟩
    have := NumText.toDigits_digitsVal r.length (c :: r) rfl ad (by
      by_cases hr : r = []
      · exact .inl (by rw [hr]; rfl)
      · refine .inr ⟨c, r, rfl, ?_⟩
        have a := ad c (List.mem_cons_self ..)
        by_cases h48 : c = 48
        · have := h3 (by rw [h48]; rfl)
          injection this with _ x
          exact absurd x hr
        · omega)
    unfold TL.numL
    rw [this, List.map_map]
    conv => rhs; rw [← List.map_id (c :: r)]
    refine List.map_congr_left fun x hx => ?_
    have a := ad x hx
    show (Char.ofNat x).toNat = x
    have : x = 48 ∨ x = 49 ∨ x = 50 ∨ x = 51 ∨ x = 52 ∨ x = 53 ∨ x = 54 ∨ x = 55 ∨ x = 56 ∨ x = 57 := by omega
    rcases this with h | h | h | h | h | h | h | h | h | h <;> subst h <;> rfl
  · cases h
theorem wholeT_inv {l : List Nat} {n : Int} (h : wholeT l = some n) : numT n = l := by
  unfold wholeT at h
  split at h
  · rename_i c
    cases hn : natT (l.drop 1) with
    | none =>
      rw [hn] at h
      cases h
    | some m =>
      rw [hn] at h
      replace h : (if m = 0 then none else some (-(m : Int))) = some n := h
      split at h
      · cases h
      · rename_i m0
        injection h with h
        subst h
        have := natT_inv hn
        unfold numT
        rw [if_pos (by omega), show (-(m : Int)).natAbs = m by omega, this]
        conv => rhs; rw [← List.take_append_drop 1 l, c]
        rfl
  · cases hn : natT l with
    | none =>
      rw [hn] at h
      cases h
    | some m =>
      rw [hn] at h
      replace h : some (m : Int) = some n := h
      injection h with h
      subst h
      unfold numT
      rw [if_neg (by omega), show ((m : Int)).natAbs = m by omega]
      exact natT_inv hn

section
variable {K : PySem.W.Frag} {σ : L2.St} {H : Hp} {ta tb tc tl te : TE} {tt : TT} {xs : List V} {D : Ends} {tz : TS} {a : Addr} {n d1 d2 d3 : Nat}
/-- a comprehension over a new list -/
theorem el_lcNw {j : Nat} {ws : List Nat} (f : Nat → Bool) (v : Nat → V) (h : EvL tl σ H xs) (hz : xs.length ≤ 40000) (hw : ∀ x, wipe ((wipe σ ws).set j (some x)) ws = wipe σ ws)
    (ht : ∀ (i : Nat) (x : V) H1, Ex H H1 → xs[i]? = some x → EvT tt ((wipe σ ws).set j (some x)) H1 (f i)) (he : ∀ (i : Nat) (x : V) H1, Ex H H1 → xs[i]? = some x → f i = true → Ev te ((wipe σ ws).set j (some x)) H1 (v i)) :
    EvL (tLc (iList K tl) (gName j) tt te ws) σ H (given xs.length f v) := fun H0 e Q q => h H0 e _ fun a H1 ha e1 h1 => ⟨a, rfl, ⟨xs, sq_of h1⟩, fun Dl hD =>
  lc_list (xs := xs) (Cw H1 f v Dl) ⟨hD, Ex.new hD, upd_same⟩ (fun i H' _ p => sq_of (p.2.1 _ _ h1)) (fun i x H' hi p => ⟨hw x, cw_turn p (by have := (List.getElem?_eq_some_iff.mp hi).1; omega) (ht i x H1 (e.trans e1) hi) (fun hf => he i x H1 (e.trans e1) hi hf)⟩)
    (fun H' p => q Dl H' (fresh_back e1 p.1) (e1.trans p.2.1) p.2.2)⟩
theorem ev_inP {p : Addr} {x : V} (ha : Ev ta σ H x) (hb : Ev tb σ H (.ref p)) (g : SqL K H p xs) (fx : flatV x = true) (fs : xs.all flatV = true) : Ev (tOp (rIn K false) ta tb) σ H (.bl (inV x xs)) := fun H1 e Q k =>
  ha H1 e _ fun H2 e2 => hb H2 (e.trans e2) _ fun H3 e3 => ⟨p, xs, rfl, .inl (ex_l ((e.trans e2).trans e3) g), fx, fs, k H3 (e2.trans e3)⟩
theorem ev_indexN {l : Addr} {j : Nat} {y : V} (ha : Ev ta σ H (.ref l)) (h : SqL K H l xs) (fs : xs.all flatV = true) (hb : Ev tb σ H y) (fy : flatV y = true) (hj : ∃ z, xs[j]? = some z ∧ eqV z y = true) (hn : ∀ m z, m < j → xs[m]? = some z → eqV z y = false) : Ev (tBM K "list" (rIndex K) ta (tCons tb tNil)) σ H (.int (j : Nat)) := fun H1 e Q q =>
  ha H1 e _ fun H2 e2 => ⟨Or.inl ⟨rfl, _, ex_l (e.trans e2) h⟩, hb H2 (e.trans e2) _ fun H3 e3 => by
    obtain ⟨z, h1, h2⟩ := hj
    exact ⟨l, xs, y, j, z, rfl, rfl, ex_l ((e.trans e2).trans e3) h, fy, fs, h1, h2, hn, q H3 (e2.trans e3)⟩⟩
theorem ev_maxN {ns : List Int} {m : Int} (h : EvL ta σ H (vi ns)) (hm : m ∈ ns) (hx : ∀ y ∈ ns, y ≤ m) : Ev (tCB (rMax K) (tCons ta tNil)) σ H (.int m) := fun H1 e Q q =>
  h H1 e _ fun p H2 hp e2 g2 => ⟨p, ns, rfl, sq_of g2, List.length_pos_of_mem hm, fun k h1 h2 => by
    have := hx k h1
    have := h2 m hm
    have e0 : k = m := by omega
    rw [e0]
    exact q H2 e2⟩
theorem qw_par3VVL {i j l : Nat} {PA PB : V → Prop} {PC : List V → Prop} (h1 : EvW a d1 ta σ H PA) (h2 : EvW a d2 tb σ H PB) (h3 : EvWL a d3 tc σ H PC) (w : Well H a n) (hl : n + (d1 + d2 + d3) ≤ 2 ^ 50)
    (k : ∀ x y p zs H1, H p = none → But a H H1 → Well H1 a (n + (d1 + d2 + d3)) → PA x → PB y → H1 p = some (.lst zs) → PC zs →
      tz D (((σ.set i (some x)).set j (some y)).set l (some (.ref p))) H1) : tSeq (tPar3 i j l (tCons ta (tCons tb (tCons tc tNil)))) tz D σ H :=
  h1 n H (But.refl a H) w (by omega) _ fun x H2 b2 w2 pa => h2 (n + d1) H2 b2 w2 (by omega) _ fun y H3 b3 w3 pb => h3 (n + d1 + d2) H3 (b2.trans b3) w3 (by omega) _ fun p zs H4 hp b4 w4 g4 pc => by
    refine ⟨_, _, _, rfl, k x y p zs H4 (but_free (b2.trans b3) w3 hp) ((b2.trans b3).trans b4) ?_ pa pb g4 pc⟩
    rw [show n + (d1 + d2 + d3) = n + d1 + d2 + d3 by omega]
    exact w4
end
end Bk
namespace Bk
open PySem PySem.Spec PyProof.Rows L2 Evl SX
theorem _root_.L2.Room.units65 {k : Nat} {A : Around} (r : Room k A) : A.units + 65 < cLine := by have := r.un; omega
/-! ### a list or a text; None among data of any depth; a comprehension whose items have each a property -/
section
variable {X : Cx} {K : PySem.W.Frag}
def rLenB (K : PySem.W.Frag) : List V → Hp → VK → Prop := fun xs H Q => rLenS K xs H Q ∨ (∃ z, xs = [V.str z] ∧ z.length ≤ sizeLine ∧ Q (.int z.length) H)
theorem call_lenB (h : X.K = K) : CallR X (.builtin "len") (rLenB K) := (call_lenK h).or call_len_str
def rIxB (K : PySem.W.Frag) : R2 := fun x y H Q => rIxL K x y H Q ∨ rIxS x y H Q
theorem ix_bothK (h : X.K = K) : IxR X (rIxB K) := (ix_listK h).or ix_str
theorem op_inDK (h : X.K = K) (hu : X.A.units + 65 < cLine) : OpR X (compareOp .In) (rInD K) := by
  subst h
  exact op_inD hu
theorem mt_indexDK (h : X.K = K) (hu : X.A.units + 65 < cLine) : MtR X "list.index" (rIndexD K) := by
  subst h
  exact mt_indexD hu
end
section
variable {K : PySem.W.Frag} {σ : L2.St} {H : Hp} {ta tb tc tl te : TE} {tt : TT} {xs : List V} {a : Addr} {d : Nat}
theorem ev_lenBL {p : Addr} (ha : Ev ta σ H (.ref p)) (h : SqL K H p xs) : Ev (tCB (rLenB K) (tCons ta tNil)) σ H (.int (xs.length : Int)) := fun H1 e Q q =>
  ha H1 e _ fun H2 e2 => .inl ⟨p, xs, rfl, .inl (ex_l (e.trans e2) h), q H2 e2⟩
theorem ev_lenBS {l : List Nat} (ha : Ev ta σ H (.str (S l))) (hl : l.length ≤ 16000000) : Ev (tCB (rLenB K) (tCons ta tNil)) σ H (.int (l.length : Int)) := fun H1 e Q q =>
  ha H1 e _ fun H2 e2 => .inr ⟨S l, rfl, by rw [S_len]; show _ ≤ 2 ^ 24; omega, by rw [S_len]; exact q H2 e2⟩
/-- [f(x) for x in a new list], each item with its property -/
theorem elp_lcI {P : Nat → V → Hp → Prop} {j : Nat} {ws : List Nat} (mono : ∀ i v H1 H2, Ex H1 H2 → P i v H1 → P i v H2) (keep : ∀ i v H1 D ys zs, H1 D = some (.lst ys) → P i v H1 → P i v (upd H1 D (.lst zs)))
    (h : EvL tl σ H xs) (hz : xs.length ≤ 40000) (hw : ∀ x, wipe ((wipe σ ws).set j (some x)) ws = wipe σ ws) (he : ∀ (i : Nat) (x : V) H1, Ex H H1 → xs[i]? = some x → EvP te ((wipe σ ws).set j (some x)) H1 (P i)) :
    EvLP (tLc (iList K tl) (gName j) tYes te ws) σ H (fun ys H2 => ys.length = xs.length ∧ ∀ (i : Nat) (v : V), ys[i]? = some v → P i v H2) := fun H0 e Q q =>
  h H0 e _ fun a H1 ha e1 hx => ⟨a, rfl, ⟨xs, sq_of hx⟩, fun Dl hD =>
    lc_list (xs := xs) (fun i H' => Ex H1 H' ∧ ∃ acc : List V, H' Dl = some (.lst acc) ∧ acc.length = i ∧ ∀ (k : Nat) (v : V), acc[k]? = some v → P k v H') ⟨Ex.new hD, [], upd_same, rfl, fun _ _ h => by cases h⟩ (fun i H' _ p => sq_of (p.1 _ _ hx)) (fun i x H' hi p => ⟨hw x, by
      obtain ⟨p1, acc, g, la, pa⟩ := p
      have hi' := (List.getElem?_eq_some_iff.mp hi).1
      refine et_yes (σ := (wipe σ ws).set j (some x)) (H := H') H' (Ex.refl H') _ fun H3 e3 => iteT ?_
      refine he i x H3 (((e.trans e1).trans p1).trans e3) hi H3 (Ex.refl H3) _ fun v H4 e4 pv => ?_
      have e34 := e3.trans e4
      refine ⟨acc, e34 _ _ g, sz_lt (by omega), (p1.trans e34).mut hD, acc ++ [v], upd_same, by rw [List.length_append, la]; rfl, fun k u hk => keep _ _ _ _ _ _ (e34 _ _ g) ?_⟩
      by_cases c : k < acc.length
      · rw [List.getElem?_append_left c] at hk
        exact mono _ _ _ _ e34 (pa k u hk)
      · rw [List.getElem?_append_right (by omega)] at hk
        have k0 : k - acc.length = 0 := by
          have := (List.getElem?_eq_some_iff.mp hk).1
          have e1 : [v].length = 1 := rfl
          omega
        rw [k0] at hk
        cases hk
        have ki : k = i := by omega
        rw [ki]
        exact pv⟩)
    (fun H' ⟨p1, acc, g, la, pa⟩ => q Dl acc H' (fresh_back e1 hD) (e1.trans p1) g ⟨by omega, pa⟩)⟩
end

/-! None among terms -/
section
variable {K : PySem.W.Frag} {σ : L2.St} {H : Hp} {ta tb tl te : TE}
theorem ev_inD {d : PyData} {ds : List PyData} {x : V} (ha : Ev ta σ H x) (hx : ∀ H1, Dp K H1 x d) (hb : EvP tb σ H fun v H1 => Dp K H1 v (.list ds)) (sd : SeqAt.shaped d = true) (ss : SeqAt.shaped (.list ds) = true) : Ev (tOp (rInD K) ta tb) σ H (.bl (ds.any fun z => PyData.eqv z d)) := fun H1 e Q k =>
  ha H1 e _ fun H2 e2 => hb H2 (e.trans e2) _ fun v H3 e3 hv => ⟨d, ds, hx H3, hv, sd, ss, k H3 (e2.trans e3)⟩
theorem ev_indexD {l : Addr} {y : V} {xs : List V} {d z : PyData} {ds : List PyData} {j : Nat} (ha : Ev ta σ H (.ref l)) (g : SqL K H l xs) (hl : DpAll K H xs ds) (hb : Ev tb σ H y) (hy : ∀ H1, Dp K H1 y d) (ss : SeqAt.shaped (.list ds) = true) (sd : SeqAt.shaped d = true) (hj : ds[j]? = some z) (hz : PyData.eqv z d = true) (hn : ∀ (m : Nat) (z' : PyData), m < j → ds[m]? = some z' → PyData.eqv z' d = false) : Ev (tBM K "list" (rIndexD K) ta (tCons tb tNil)) σ H (.int (j : Nat)) := fun H1 e Q q =>
  ha H1 e _ fun H2 e2 => ⟨Or.inl ⟨rfl, _, ex_l (e.trans e2) g⟩, hb H2 (e.trans e2) _ fun H3 e3 => ⟨l, y, d, ds, j, z, rfl, rfl, .lst (ex_l ((e.trans e2).trans e3) g) (DpAll.ex ((e.trans e2).trans e3) ds xs hl), hy H3, ss, sd, hj, hz, hn, q H3 (e2.trans e3)⟩⟩
end
end Bk
namespace My
open PySem PySem.Spec PyProof.Rows L2 Evl Bk

/-! ### tables of numbers -/
def tabL (m : Nat) (f : Nat → Int) : List Int := (List.range m).map f
theorem tab_length (m : Nat) (f : Nat → Int) : (tabL m f).length = m := by simp [tabL]
theorem tab_get {m : Nat} {f : Nat → Int} {i : Nat} (h : i < m) : (tabL m f)[i]? = some (f i) := by
  unfold tabL
  rw [List.getElem?_map, List.getElem?_range h]
  rfl
theorem tab_at {m : Nat} {f : Nat → Int} {i : Nat} (h : i < m) : (vi (tabL m f))[i]? = some (.int (f i)) := by
  unfold vi
  rw [List.getElem?_map, tab_get h]
  rfl
theorem tab_getD {m : Nat} {f : Nat → Int} {i : Nat} (h : i < m) : (tabL m f).getD i 0 = f i := by
  rw [List.getD_eq_getElem?_getD, tab_get h]
  rfl
theorem tab_congr {m : Nat} {f g : Nat → Int} (h : ∀ i, i < m → f i = g i) : tabL m f = tabL m g := List.map_congr_left fun i hi => h i (List.mem_range.mp hi)
theorem tab_set {m : Nat} {f : Nat → Int} {j : Nat} {v : Int} (h : j < m) : (tabL m f).set j v = tabL m fun i => if i = j then v else f i := by
  refine List.ext_getElem? fun i => ?_
  by_cases hi : i < m
  · rw [tab_get hi]
    by_cases c : i = j
    · rw [c, List.getElem?_set_self (by rw [tab_length]; exact h), if_pos rfl]
    · rw [List.getElem?_set_ne (Ne.symm c), tab_get hi, if_neg c]
  · rw [List.getElem?_eq_none (by rw [List.length_set, tab_length]; omega), List.getElem?_eq_none (by rw [tab_length]; omega)]
theorem tab_self (r : List Int) : tabL r.length (fun i => r.getD i 0) = r := by
  refine List.ext_getElem? fun i => ?_
  by_cases hi : i < r.length
  · rw [tab_get hi, List.getElem?_eq_getElem hi, List.getD_eq_getElem?_getD, List.getElem?_eq_getElem hi]
    rfl
  · rw [List.getElem?_eq_none (by rw [tab_length]; omega), List.getElem?_eq_none (by omega)]
theorem tab_zero (m : Nat) : List.replicate m (0 : Int) = tabL m fun _ => 0 := by
  refine List.ext_getElem? fun i => ?_
  rw [List.getElem?_replicate]
  by_cases hi : i < m
  · rw [tab_get hi, if_pos hi]
  · rw [if_neg hi, List.getElem?_eq_none (by rw [tab_length]; omega)]
theorem given_tab (m : Nat) (f : Nat → Int) : given m (fun _ => true) (fun i => V.int (f i)) = vi (tabL m f) := given_ints _ _
/-! ### the row of counts -/
def part (c : List Int) (i : Nat) : Nat → Int
  | 0 => 0
  | k + 1 => part c i k + (if (i + 1) % (k + 1) = 0 then ((k + 1 : Nat) : Int) * c.getD k 0 else 0)
def rowL (c : List Int) : List Int := tabL c.length fun i => part c i (i + 1)
theorem rowL_length (c : List Int) : (rowL c).length = c.length := tab_length _ _
theorem part_stay (c : List Int) (i : Nat) {k : Nat} (h : i + 1 ≤ k) : part c i k = part c i (i + 1) := by
  induction k with
  | zero => omega
  | succ k ih =>
    by_cases e : i = k
    · rw [e]
    · show part c i k + (if (i + 1) % (k + 1) = 0 then _ else 0) = _
      rw [if_neg (by rw [Nat.mod_eq_of_lt (by omega)]; omega), ih (by omega), Int.add_zero]
/-- j is the t-th multiple of n -/
theorem mul_ix {n t i : Nat} (hn : 0 < n) (h : (i + 1) % n = 0) : (i + 1) / n ≤ t + 1 ↔ (i + 1) / n ≤ t ∨ i + 1 = n * (t + 1) := by
  have e := Nat.div_add_mod (i + 1) n
  rw [h, Nat.add_zero] at e
  constructor
  · intro k
    by_cases c : (i + 1) / n ≤ t
    · exact .inl c
    · right
      rw [← e, show (i + 1) / n = t + 1 by omega]
  · rintro (k | k)
    · omega
    · rw [k, Nat.mul_div_cancel_left _ hn]
      exact Nat.le_refl _
theorem mul_mod {n t : Nat} (hn : 0 < n) : (n * (t + 1) - 1 + 1) % n = 0 ∧ (n * (t + 1) - 1 + 1) / n = t + 1 := by
  have : 0 < n * (t + 1) := Nat.mul_pos hn (Nat.succ_pos t)
  rw [show n * (t + 1) - 1 + 1 = n * (t + 1) by omega]
  exact ⟨Nat.mul_mod_right _ _, Nat.mul_div_cancel_left _ hn⟩
/-! ### new numbers -/
def sub (r : List Int) : Nat → Nat → Int
  | 0, i => r.getD i 0
  | k + 1, i => sub r k i - (if k < i ∧ (i + 1) % (k + 1) = 0 then sub r k k else 0)
def newL (r : List Int) : List Int := tabL r.length (sub r r.length)
theorem newL_length (r : List Int) : (newL r).length = r.length := tab_length _ _
theorem sub_row (c : List Int) (k : Nat) : ∀ i, i < c.length → sub (rowL c) k i = part c i (i + 1) - part c i (min k i) := by
  induction k with
  | zero =>
    intro i hi
    show (rowL c).getD i 0 = _
    rw [Nat.zero_min]
    unfold rowL
    rw [tab_getD hi]
    show _ = _ - (0 : Int)
    omega
  | succ k ih =>
    intro i hi
    show sub (rowL c) k i - (if k < i ∧ (i + 1) % (k + 1) = 0 then sub (rowL c) k k else 0) = _
    rw [ih i hi]
    by_cases h : k < i
    · rw [show min (k + 1) i = k + 1 by omega, show min k i = k by omega]
      have ek : part c i (k + 1) = part c i k + (if (i + 1) % (k + 1) = 0 then ((k + 1 : Nat) : Int) * c.getD k 0 else 0) := rfl
      by_cases h2 : (i + 1) % (k + 1) = 0
      · have e3 : part c k (k + 1) = part c k k + (if (k + 1) % (k + 1) = 0 then ((k + 1 : Nat) : Int) * c.getD k 0 else 0) := rfl
        rw [if_pos (Nat.mod_self _)] at e3
        rw [if_pos h2] at ek
        rw [if_pos ⟨h, h2⟩, ih k (by omega), Nat.min_self, ek, e3]
        omega
      · rw [if_neg h2] at ek
        rw [if_neg fun z => h2 z.2, ek]
        omega
    · rw [if_neg fun z => h z.1, show min (k + 1) i = i by omega, show min k i = i by omega]
      omega
theorem new_row (c : List Int) : newL (rowL c) = tabL c.length fun i => ((i + 1 : Nat) : Int) * c.getD i 0 := by
  unfold newL
  rw [rowL_length]
  refine tab_congr fun i hi => ?_
  rw [sub_row c _ i hi, show min c.length i = i by omega]
  have e3 : part c i (i + 1) = part c i i + (if (i + 1) % (i + 1) = 0 then ((i + 1 : Nat) : Int) * c.getD i 0 else 0) := rfl
  rw [if_pos (Nat.mod_self _)] at e3
  rw [e3]
  omega
/-- no bar -/
def Free (r : List Int) : Prop := ∀ i, i < r.length → ∃ q : Int, 0 ≤ q ∧ (newL r).getD i 0 = ((i + 1 : Nat) : Int) * q
theorem free_row {c : List Int} (h : ∀ n ∈ c, 0 ≤ n) : Free (rowL c) := fun i hi => by
  rw [rowL_length] at hi
  refine ⟨c.getD i 0, ?_, by rw [new_row, tab_getD hi]⟩
  rw [List.getD_eq_getElem?_getD, List.getElem?_eq_getElem hi]
  exact h _ (List.getElem_mem hi)
def ringsR (r : List Int) : List Int := tabL r.length fun i => (newL r).getD i 0 / ((i + 1 : Nat) : Int)
theorem rings_row (c : List Int) : ringsR (rowL c) = c := by
  unfold ringsR
  rw [rowL_length]
  refine (tab_congr fun i hi => ?_).trans (tab_self c)
  rw [new_row, tab_getD hi, Int.mul_ediv_cancel_left _ (by omega)]
def addL (xs ys : List Int) : List Int := tabL (min xs.length ys.length) fun i => xs.getD i 0 + ys.getD i 0
theorem getD_at {xs : List Int} {i : Nat} (h : i < xs.length) : (vi xs)[i]? = some (.int (xs.getD i 0)) := by
  rw [vi_at h, List.getD_eq_getElem?_getD, List.getElem?_eq_getElem h]
  rfl

/-! ### new numbers, told divisor by divisor -/
theorem sub_late (r : List Int) {i k : Nat} (h : i ≤ k) : sub r k i = sub r i i := by
  induction k with
  | zero =>
    rw [show i = 0 by omega]
  | succ k ih =>
    by_cases e : i = k + 1
    · rw [e]
    · show sub r k i - (if k < i ∧ (i + 1) % (k + 1) = 0 then sub r k k else 0) = _
      rw [if_neg fun z => by omega, ih (by omega), Int.sub_zero]
theorem newL_diag (r : List Int) : newL r = tabL r.length fun i => sub r i i := tab_congr fun i hi => sub_late r (Nat.le_of_lt hi)
theorem sub_half (r : List Int) (i : Nat) {k : Nat} (h : (i + 1) / 2 ≤ k) (hk : k ≤ i) : sub r k i = sub r ((i + 1) / 2) i := by
  induction k with
  | zero =>
    rw [show (i + 1) / 2 = 0 by omega]
  | succ k ih =>
    by_cases e : (i + 1) / 2 = k + 1
    · rw [e]
    · show sub r k i - (if k < i ∧ (i + 1) % (k + 1) = 0 then sub r k k else 0) = _
      rw [if_neg, ih (by omega) (by omega), Int.sub_zero]
      rintro ⟨h1, h2⟩
      obtain ⟨q, hq⟩ := Nat.dvd_of_mod_eq_zero h2
      have hq2 : 2 ≤ q := by
        rcases Nat.lt_or_ge q 2 with z | z
        · have : q = 0 ∨ q = 1 := by omega
          rcases this with z | z
          · rw [z] at hq
            omega
          · rw [z] at hq
            omega
        · exact z
      have : (k + 1) * 2 ≤ (k + 1) * q := Nat.mul_le_mul_left _ hq2
      omega
theorem sub_sum (r : List Int) (i : Nat) : ∀ k : Nat, k ≤ i → (((List.range k).filter fun d : Nat => decide ((1 + (i : Int)) % (1 + (d : Int)) = 0)).map fun d : Nat => sub r d d).sum = r.getD i 0 - sub r k i
  | 0, _ => by
    show (0 : Int) = r.getD i 0 - r.getD i 0
    omega
  | k + 1, hk => by
    have ih := sub_sum r i k (by omega)
    have e : ((1 + (i : Int)) % (1 + (k : Int)) = 0) ↔ (i + 1) % (k + 1) = 0 := by
      have : ((1 + (i : Int)) % (1 + (k : Int))) = (((i + 1) % (k + 1) : Nat) : Int) := by
        rw [Int.natCast_emod, Int.natCast_add, Int.natCast_add, Int.add_comm 1, Int.add_comm 1]
        rfl
      rw [this]
      omega
    rw [List.range_succ, List.filter_append, List.map_append, List.sum_append, ih]
    show _ = r.getD i 0 - (sub r k i - (if k < i ∧ (i + 1) % (k + 1) = 0 then sub r k k else 0))
    by_cases h : (i + 1) % (k + 1) = 0
    · rw [if_pos ⟨by omega, h⟩, List.filter_cons, if_pos (decide_eq_true (e.mpr h))]
      simp only [List.filter_nil, List.map_cons, List.map_nil, List.sum_cons, List.sum_nil]
      omega
    · rw [if_neg fun z => h z.2, List.filter_cons, if_neg (by simpa using fun z => h (e.mp z))]
      simp only [List.filter_nil, List.map_nil, List.sum_nil]
      omega
theorem part_le {c : List Int} {B : Int} (hB : 0 ≤ B) (h : ∀ z ∈ c, 0 ≤ z ∧ z < B) (i : Nat) : ∀ k : Nat, k ≤ 60 → 0 ≤ part c i k ∧ part c i k ≤ (k : Int) * (60 * B)
  | 0, _ => ⟨Int.le_refl _, by show (0 : Int) ≤ (0 : Int) * _; omega⟩
  | k + 1, hk => by
    obtain ⟨h0, h1⟩ := part_le hB h i k (by omega)
    have hc : 0 ≤ c.getD k 0 ∧ c.getD k 0 ≤ B := by
      rw [List.getD_eq_getElem?_getD]
      cases g : c[k]? with
      | none => exact ⟨Int.le_refl _, hB⟩
      | some z =>
        have := h z (List.mem_of_getElem? g)
        show 0 ≤ z ∧ z ≤ B
        omega
    have h2 : 0 ≤ ((k + 1 : Nat) : Int) * c.getD k 0 := Int.mul_nonneg (by omega) hc.1
    have h3 : ((k + 1 : Nat) : Int) * c.getD k 0 ≤ 60 * B := Int.mul_le_mul (by omega) hc.2 hc.1 (by decide)
    have e : ((k + 1 : Nat) : Int) * (60 * B) = (k : Int) * (60 * B) + 60 * B := by
      rw [Int.natCast_add, Int.add_mul]
      omega
    show 0 ≤ part c i k + _ ∧ part c i k + _ ≤ _
    rw [e]
    split <;> omega
/-- a row as it is drawn -/
def RowOk (r : List Int) : Prop := 0 < r.length ∧ r.length ≤ 30 ∧ ∀ x ∈ r, -(2 ^ 170) < x ∧ x < 2 ^ 170
theorem rowok_set {r : List Int} {i : Nat} {x : Int} (h : RowOk r) (hx : -(2 ^ 170) < x ∧ x < 2 ^ 170) : RowOk (r.set i x) := by
  obtain ⟨h0, h1, h2⟩ := h
  refine ⟨by rw [List.length_set]; exact h0, by rw [List.length_set]; exact h1, fun y hy => ?_⟩
  rcases List.mem_or_eq_of_mem_set hy with z | z
  · exact h2 y z
  · rw [z]
    exact hx
theorem rowok_wide {r : List Int} (h : RowOk r) : wide 1900 r ∧ r.length ≤ 4000 := by
  obtain ⟨h0, h1, h2⟩ := h
  refine ⟨(wide_lt (k := 170) (by decide) fun n hn => ?_).mono (by decide), by omega⟩
  have := h2 n hn
  have e2 : (2 : Nat) ^ 170 = 1496577676626844588240573268701473812127674924007424 := by decide
  have e3 : (2 : Int) ^ 170 = 1496577676626844588240573268701473812127674924007424 := by decide
  rw [e3] at this
  rw [e2]
  omega

/-! ### the least row above -/
def lk (x : Int) : Int := if x > 0 then x else 0
theorem lk_div (x : Int) {n : Int} (hn : 0 < n) : ∃ q : Int, 0 ≤ q ∧ lk x + -lk x % n = n * q := by
  have h0 : 0 ≤ lk x := by
    unfold lk
    split <;> omega
  have h1 := Int.emod_nonneg (-lk x) (show n ≠ 0 by omega)
  have h2 : (lk x + -lk x % n) % n = 0 := by
    rw [Int.add_emod_emod, show lk x + -lk x = 0 by omega, Int.zero_emod]
  exact ⟨(lk x + -lk x % n) / n, Int.ediv_nonneg (by omega) (by omega), (Int.mul_ediv_cancel' (Int.dvd_of_emod_eq_zero h2)).symm⟩
def Least (r c : List Int) (k : Nat) : Prop := ∀ j, j < k → lk (r.getD j 0 - part c j j) + -lk (r.getD j 0 - part c j j) % ((j + 1 : Nat) : Int) = ((j + 1 : Nat) : Int) * c.getD j 0
def LeastOf (r c : List Int) : Prop := c.length = r.length ∧ (∀ z ∈ c, 0 ≤ z) ∧ Least r c c.length
theorem part_app (c : List Int) (x : Int) (i : Nat) : ∀ k, k ≤ c.length → part (c ++ [x]) i k = part c i k
  | 0, _ => rfl
  | k + 1, h => by
    show part (c ++ [x]) i k + _ = part c i k + _
    have e : (c ++ [x]).getD k 0 = c.getD k 0 := by
      rw [List.getD_eq_getElem?_getD, List.getD_eq_getElem?_getD, List.getElem?_append_left (by omega)]
    rw [part_app c x i k (by omega), e]
theorem push_getD {c : List Int} {k : Nat} (h : c.length = k) (x : Int) : (c ++ [x]).getD k 0 = x := by
  rw [List.getD_eq_getElem?_getD, List.getElem?_append_right (by omega), h, Nat.sub_self]
  rfl
theorem part_push {c : List Int} {k i : Nat} {x : Int} (h : c.length = k) : part (c ++ [x]) i (k + 1) = part c i k + (if (i + 1) % (k + 1) = 0 then ((k + 1 : Nat) : Int) * x else 0) := by
  show part (c ++ [x]) i k + (if (i + 1) % (k + 1) = 0 then ((k + 1 : Nat) : Int) * (c ++ [x]).getD k 0 else 0) = _
  rw [part_app c x i k (by omega), push_getD h]
theorem least_app {r c : List Int} {k : Nat} {x : Int} (h : c.length = k) (le : Least r c k) (hx : lk (r.getD k 0 - part c k k) + -lk (r.getD k 0 - part c k k) % ((k + 1 : Nat) : Int) = ((k + 1 : Nat) : Int) * x) : Least r (c ++ [x]) (k + 1) := fun j hj => by
  rw [part_app c x j j (by omega)]
  by_cases e : j = k
  · subst e
    rw [push_getD h]
    exact hx
  · have e2 : (c ++ [x]).getD j 0 = c.getD j 0 := by
      rw [List.getD_eq_getElem?_getD, List.getD_eq_getElem?_getD, List.getElem?_append_left (by omega)]
    rw [e2]
    exact le j (by omega)

theorem part_same {c c' : List Int} {i : Nat} : ∀ {k : Nat}, (∀ d, d < k → c.getD d 0 = c'.getD d 0) → part c i k = part c' i k
  | 0, _ => rfl
  | k + 1, h => by
    show part c i k + _ = part c' i k + _
    rw [part_same fun d hd => h d (by omega), h k (by omega)]
theorem part_top (c : List Int) (j : Nat) : part c j (j + 1) = part c j j + ((j + 1 : Nat) : Int) * c.getD j 0 := by
  show part c j j + (if (j + 1) % (j + 1) = 0 then _ else 0) = _
  rw [if_pos (Nat.mod_self _)]
theorem getD_nn' {c : List Int} (h : ∀ z ∈ c, 0 ≤ z) (j : Nat) : 0 ≤ c.getD j 0 := by
  rw [List.getD_eq_getElem?_getD]
  cases g : c[j]? with
  | none => exact Int.le_refl 0
  | some z => exact h z (List.mem_of_getElem? g)
theorem least_uniq {c0 c : List Int} (h0 : ∀ z ∈ c0, 0 ≤ z) (h : LeastOf (rowL c0) c) : c = c0 := by
  obtain ⟨hl, hn, le⟩ := h
  rw [rowL_length] at hl
  have go : ∀ j, j < c.length → c.getD j 0 = c0.getD j 0 := by
    intro j
    induction j using Nat.strongRecOn with
    | _ j ih =>
      intro hj
      have e := le j hj
      have ep : part c j j = part c0 j j := part_same fun d hd => ih d hd (by omega)
      have er : (rowL c0).getD j 0 = part c0 j (j + 1) := by
        unfold rowL
        exact tab_getD (by omega)
      rw [ep, er, part_top, show part c0 j j + ((j + 1 : Nat) : Int) * c0.getD j 0 - part c0 j j = ((j + 1 : Nat) : Int) * c0.getD j 0 by omega] at e
      have hp : 0 ≤ ((j + 1 : Nat) : Int) * c0.getD j 0 := Int.mul_nonneg (by omega) (getD_nn' h0 j)
      have el : lk (((j + 1 : Nat) : Int) * c0.getD j 0) = ((j + 1 : Nat) : Int) * c0.getD j 0 := by
        unfold lk
        split <;> omega
      rw [el, ← Int.mul_neg, Int.mul_emod_right, Int.add_zero] at e
      exact (Int.eq_of_mul_eq_mul_left (by omega) e).symm
  refine List.ext_getElem? fun j => ?_
  by_cases hj : j < c.length
  · have := go j hj
    rw [List.getD_eq_getElem?_getD, List.getD_eq_getElem?_getD, List.getElem?_eq_getElem hj, List.getElem?_eq_getElem (show j < c0.length by omega)] at this
    rw [List.getElem?_eq_getElem hj, List.getElem?_eq_getElem (show j < c0.length by omega)]
    exact congrArg some this
  · rw [List.getElem?_eq_none (by omega), List.getElem?_eq_none (by omega)]
theorem rings_get {r : List Int} (fr : Free r) {j : Nat} (hj : j < r.length) : 0 ≤ (ringsR r).getD j 0 ∧ ((j + 1 : Nat) : Int) * (ringsR r).getD j 0 = sub r j j := by
  obtain ⟨d, d0, ed⟩ := fr j hj
  have e1 : (ringsR r).getD j 0 = (newL r).getD j 0 / ((j + 1 : Nat) : Int) := by
    unfold ringsR
    exact tab_getD hj
  have e2 : (newL r).getD j 0 = sub r j j := by
    rw [newL_diag]
    exact tab_getD hj
  rw [e1, ed, Int.mul_ediv_cancel_left _ (by omega), ← ed, e2]
  exact ⟨d0, rfl⟩
theorem free_rowL {r : List Int} (fr : Free r) : rowL (ringsR r) = r := by
  have hl : (ringsR r).length = r.length := tab_length _ _
  have go : ∀ k i, k ≤ i → i < r.length → sub r k i = r.getD i 0 - part (ringsR r) i k := by
    intro k
    induction k with
    | zero =>
      intro i _ _
      show r.getD i 0 = r.getD i 0 - 0
      omega
    | succ k ih =>
      intro i hk hi
      have e1 : sub r (k + 1) i = sub r k i - (if k < i ∧ (i + 1) % (k + 1) = 0 then sub r k k else 0) := rfl
      have e2 : part (ringsR r) i (k + 1) = part (ringsR r) i k + (if (i + 1) % (k + 1) = 0 then ((k + 1 : Nat) : Int) * (ringsR r).getD k 0 else 0) := rfl
      rw [e1, e2, ih i (by omega) hi, (rings_get fr (show k < r.length by omega)).2]
      by_cases c : (i + 1) % (k + 1) = 0
      · rw [if_pos ⟨by omega, c⟩, if_pos c]
        omega
      · rw [if_neg fun z => c z.2, if_neg c]
        omega
  unfold rowL
  rw [hl]
  refine (tab_congr fun i hi => ?_).trans (tab_self r)
  have := go i i (Nat.le_refl i) hi
  rw [part_top, (rings_get fr hi).2]
  omega
theorem rings_nn {r : List Int} (fr : Free r) : ∀ z ∈ ringsR r, 0 ≤ z := fun z hz => by
  obtain ⟨j, hj, rfl⟩ := List.getElem_of_mem hz
  have hl : (ringsR r).length = r.length := tab_length _ _
  have := (rings_get fr (show j < r.length by omega)).1
  rw [List.getD_eq_getElem?_getD, List.getElem?_eq_getElem hj] at this
  exact this
theorem least_free {r c : List Int} (fr : Free r) (h : LeastOf r c) : rowL c = r := by
  have e := free_rowL fr
  rw [← e] at h
  rw [least_uniq (rings_nn fr) h, e]
/-- what is asked of the least row, number by number -/
theorem least_at {r c : List Int} (h : LeastOf r c) {j : Nat} (hj : j < r.length) : (rowL c).getD j 0 = part c j j + ((j + 1 : Nat) : Int) * c.getD j 0 ∧ 0 ≤ part c j j ∧ r.getD j 0 ≤ (rowL c).getD j 0 ∧ (0 < ((j + 1 : Nat) : Int) * c.getD j 0 → (rowL c).getD j 0 - ((j + 1 : Nat) : Int) < r.getD j 0) := by
  obtain ⟨hl, hn, le⟩ := h
  have e := le j (by omega)
  have ep : ∀ k, 0 ≤ part c j k := by
    intro k
    induction k with
    | zero => exact Int.le_refl _
    | succ k ih =>
      show 0 ≤ part c j k + _
      have : 0 ≤ ((k + 1 : Nat) : Int) * c.getD k 0 := Int.mul_nonneg (by omega) (getD_nn' hn k)
      split <;> omega
  have er : (rowL c).getD j 0 = part c j j + ((j + 1 : Nat) : Int) * c.getD j 0 := by
    unfold rowL
    rw [tab_getD (by omega), part_top]
  have m0 := Int.emod_nonneg (-lk (r.getD j 0 - part c j j)) (show ((j + 1 : Nat) : Int) ≠ 0 by omega)
  have m1 := Int.emod_lt_of_pos (-lk (r.getD j 0 - part c j j)) (show (0 : Int) < ((j + 1 : Nat) : Int) by omega)
  refine ⟨er, ep j, ?_, fun hpos => ?_⟩
  · rw [er, ← e]
    have : r.getD j 0 - part c j j ≤ lk (r.getD j 0 - part c j j) := by
      unfold lk
      split <;> omega
    omega
  · rw [er, ← e]
    rw [← e] at hpos
    by_cases d0 : r.getD j 0 - part c j j > 0
    · have el : lk (r.getD j 0 - part c j j) = r.getD j 0 - part c j j := if_pos d0
      rw [el] at m1 ⊢
      omega
    · have el : lk (r.getD j 0 - part c j j) = 0 := if_neg d0
      rw [el, Int.neg_zero, Int.zero_emod] at hpos
      omega
theorem least_wide {r c : List Int} (ok : RowOk r) (h : LeastOf r c) : wide 1900 (rowL c) ∧ (rowL c).length ≤ 4000 := by
  obtain ⟨h0, h1, h2⟩ := ok
  have hl := h.1
  have e170 : (2 : Int) ^ 170 = 1496577676626844588240573268701473812127674924007424 := by decide
  rw [e170] at h2
  have term : ∀ j, j < r.length → 0 ≤ ((j + 1 : Nat) : Int) * c.getD j 0 ∧ ((j + 1 : Nat) : Int) * c.getD j 0 ≤ 2000000000000000000000000000000000000000000000000000 := by
    intro j hj
    obtain ⟨e1, e2, e3, e4⟩ := least_at h hj
    have p : 0 ≤ ((j + 1 : Nat) : Int) * c.getD j 0 := Int.mul_nonneg (by omega) (getD_nn' h.2.1 j)
    refine ⟨p, ?_⟩
    have hr := h2 _ (List.getElem_mem hj)
    have er : r.getD j 0 = r[j] := by
      rw [List.getD_eq_getElem?_getD, List.getElem?_eq_getElem hj]
      rfl
    by_cases q : 0 < ((j + 1 : Nat) : Int) * c.getD j 0
    · have := e4 q
      omega
    · omega
  have bound : ∀ i k : Nat, k ≤ r.length → 0 ≤ part c i k ∧ part c i k ≤ (k : Int) * 2000000000000000000000000000000000000000000000000000 := by
    intro i k
    induction k with
    | zero => exact fun _ => ⟨Int.le_refl _, by show (0 : Int) ≤ (0 : Int) * _; omega⟩
    | succ k ih =>
      intro hk
      have := ih (by omega)
      have := term k (by omega)
      show 0 ≤ part c i k + _ ∧ part c i k + _ ≤ _
      split <;> omega
  refine ⟨(wide_lt (k := 200) (by decide) fun n hn => ?_).mono (by decide), by rw [rowL_length]; omega⟩
  obtain ⟨i, hi, rfl⟩ := List.mem_map.mp hn
  have hi := List.mem_range.mp hi
  have := bound i (i + 1) (by omega)
  have e2 : (2 : Nat) ^ 200 = 1606938044258990275541962092341162602522202993782792835301376 := by decide
  rw [e2]
  omega

/-! ### rules -/
structure Tm where
  w : Nat
  c : Int
  z : Int
def kn (w : Nat) : Str := if w = 0 then "power" else if w = 1 then "ring" else "places"
def tv (t : Tm) : List V := [.str (kn t.w), .int t.c, .int t.z]
structure TmOk (t : Tm) : Prop where
  c0 : -1000000 ≤ t.c
  c1 : t.c ≤ 1000000
  w2 : t.w < 3
  p : t.w = 0 → -40 ≤ t.z ∧ t.z ≤ 40
  r : t.w = 1 → 1 ≤ t.z ∧ t.z ≤ 300
  s : t.w = 2 → 1 ≤ t.z ∧ t.z ≤ 6
def tat (t : Tm) (n : Nat) : Int := if t.w = 0 then t.c * t.z ^ n else if t.w = 1 then (if (n : Int) % t.z = 0 then t.c * t.z else 0) else t.c * ((n ^ t.z.toNat : Nat) : Int)
def rat (ts : List Tm) (n : Nat) : Int := (ts.map fun t => tat t n).sum
/-- a rule stands at r -/
def Rul (H : Hp) (r : Addr) (ts : List Tm) : Prop := ∃ as : List Addr, H r = some (.lst (as.map .ref)) ∧ as.length = ts.length ∧ ∀ (i : Nat) (a : Addr) (t : Tm), as[i]? = some a → ts[i]? = some t → H a = some (.tup (tv t))
theorem Rul.ex {H H' : Hp} {r : Addr} {ts : List Tm} (h : Rul H r ts) (e : Ex H H') : Rul H' r ts := by
  obtain ⟨as, g, l, f⟩ := h
  exact ⟨as, e _ _ g, l, fun i a t x y => e _ _ (f i a t x y)⟩
theorem rat_snoc (ts : List Tm) (t : Tm) (n : Nat) : rat (ts ++ [t]) n = rat ts n + tat t n := by
  unfold rat
  rw [List.map_append, List.sum_append]
  show _ + (tat t n + 0) = _
  omega
def ruv (ts : List Tm) (n : Nat) : List Int := tabL n fun i => rat ts (i + 1)
def tuv (t : Tm) (n : Nat) : List Int := tabL n fun i => tat t (i + 1)
theorem rv_eqS {H : Hp} {x y : Str} : RV rEq (.str x) (.str y) H (.bl (decide (x = y))) := by
  have h : RV rEq (V.str x) (V.str y) H (.bl (decide (V.str x = V.str y))) := rv_eq rfl
  have e : decide (V.str x = V.str y) = decide (x = y) := decide_eq_decide.mpr ⟨fun z => V.str.inj z, fun z => by rw [z]⟩
  rwa [e] at h

def tdat (t : Tm) : PyData := .tuple [.str (kn t.w), .int t.c, .int t.z]
def rdat (ts : List Tm) : PyData := .list (ts.map tdat)
theorem kn_len (w : Nat) : (PyData.shown (.str (kn w))).length ≤ 40 := by
  unfold kn
  split
  · rw [PyData.shown]
    decide +kernel
  · split
    · rw [PyData.shown]
      decide +kernel
    · rw [PyData.shown]
      decide +kernel
theorem log_of {i : Int} (h0 : -1000000000 ≤ i) (h1 : i ≤ 1000000000) : i.natAbs.log2 < 1900 := by
  refine Nat.lt_of_lt_of_le (PySem.Flt.log2_lt_of (k := 100) (by decide) ?_) (by decide)
  have e : (2 : Nat) ^ 100 = 1267650600228229401496703205376 := by decide
  rw [e]
  omega
def TmL (t : Tm) : Prop := -1000000000 ≤ t.c ∧ t.c ≤ 1000000000 ∧ -1000000000 ≤ t.z ∧ t.z ≤ 1000000000
theorem tdat_len {t : Tm} (h : TmL t) : (tdat t).shown.length ≤ 6000 := by
  obtain ⟨c0, c1, z0, z1⟩ := h
  have hi : ∀ {n : Int}, n.natAbs.log2 < 1900 → ((toString n : Str)).length ≤ 1901 := fun hn => by
    rw [PySem.ofString_length]
    exact int_text_length_le (by decide) hn
  unfold tdat
  rw [PyData.shown]
  have := tupleText_le (ts := PyData.shownAll [.str (kn t.w), .int t.c, .int t.z]) (L := 1901) (by
    intro x hx
    simp only [PyData.shownAll, List.mem_cons, List.not_mem_nil, or_false] at hx
    rcases hx with e | e | e
    · have := kn_len t.w
      rw [e]
      omega
    · rw [e, PyData.shown]
      exact hi (log_of c0 c1)
    · rw [e, PyData.shown]
      exact hi (log_of z0 z1))
  have e2 : (PyData.shownAll [.str (kn t.w), .int t.c, .int t.z]).length = 3 := rfl
  rw [e2] at this
  omega
theorem rdat_all : ∀ {ts : List Tm}, (∀ t ∈ ts, TmL t) → PyData.showableAll (ts.map tdat) = true ∧ PyData.hasDictAll (ts.map tdat) = false ∧ PyData.depthAll (ts.map tdat) ≤ 1 ∧ (PyData.shownAll (ts.map tdat)).length = ts.length ∧ ∀ x ∈ PyData.shownAll (ts.map tdat), x.length ≤ 6000
  | [], _ => ⟨rfl, rfl, Nat.zero_le _, rfl, fun _ h => nomatch h⟩
  | t :: r, h => by
    obtain ⟨a, b, c, d, e⟩ := rdat_all (ts := r) fun x m => h x (List.mem_cons_of_mem _ m)
    have ht := h t (List.mem_cons_self ..)
    obtain ⟨c0, c1, z0, z1⟩ := id ht
    have l1 := log_of c0 c1
    have l2 := log_of z0 z1
    have s1 : (tdat t).showable = true := by
      simp [tdat, PyData.showable, PyData.showableAll]
      omega
    have s2 : (tdat t).hasDict = false := by simp [tdat, PyData.hasDict, PyData.hasDictAll]
    have s3 : (tdat t).depth ≤ 1 := by simp [tdat, PyData.depth, PyData.depthAll]
    refine ⟨?_, ?_, ?_, ?_, ?_⟩
    · rw [List.map_cons, PyData.showableAll, s1, a]
      rfl
    · rw [List.map_cons, PyData.hasDictAll, s2, b]
      rfl
    · rw [List.map_cons, PyData.depthAll]
      omega
    · rw [List.map_cons, PyData.shownAll, List.length_cons, List.length_cons, d]
    · intro x hx
      rw [List.map_cons, PyData.shownAll] at hx
      rcases List.mem_cons.mp hx with rfl | hx
      · exact tdat_len ht
      · exact e x hx
theorem rdat_sho {ts : List Tm} (h : ∀ t ∈ ts, TmL t) (l : ts.length ≤ 12) : Sho (rdat ts) := by
  obtain ⟨a, b, c, d, e⟩ := rdat_all h
  refine ⟨by unfold rdat; rw [PyData.showable, a], by unfold rdat; rw [PyData.hasDict, b], by unfold rdat; rw [PyData.depth]; omega, ?_⟩
  unfold rdat
  rw [PyData.shown]
  have := listText_le e
  rw [d] at this
  rw [sizeLine_eq]
  omega
theorem dp_all {K : PySem.W.Frag} {H : Hp} : ∀ {as : List Addr} {ts : List Tm}, as.length = ts.length → (∀ (i : Nat) (a : Addr) (t : Tm), as[i]? = some a → ts[i]? = some t → H a = some (.tup (tv t))) → DpAll K H (as.map V.ref) (ts.map tdat)
  | [], [], _, _ => .nil
  | a :: as, t :: ts, l, f => .cons (.tup (st_of (f 0 a t rfl rfl)) (.cons (.str _) (.cons (.int _) (.cons (.int _) .nil)))) (dp_all (by simpa using l) fun i b u x y => f (i + 1) b u x y)
  | [], _ :: _, l, _ => by cases l
  | _ :: _, [], l, _ => by cases l
theorem Rul.dp {K : PySem.W.Frag} {H : Hp} {r : Addr} {ts : List Tm} (h : Rul H r ts) : Dp K H (.ref r) (rdat ts) := by
  obtain ⟨as, g, l, f⟩ := h
  exact .lst (sq_of g) (dp_all l f)
theorem rat_cons (t : Tm) (ts : List Tm) (n : Nat) : rat (t :: ts) n = tat t n + rat ts n := by
  unfold rat
  rw [List.map_cons, List.sum_cons]
theorem rat_rev (n : Nat) : ∀ ts : List Tm, rat ts.reverse n = rat ts n
  | [] => rfl
  | t :: ts => by
    rw [List.reverse_cons, rat_snoc, rat_rev n ts, rat_cons]
    omega
theorem tat_sub (w : Nat) (c s z : Int) (n : Nat) : tat ⟨w, c - s, z⟩ n + tat ⟨w, s, z⟩ n = tat ⟨w, c, z⟩ n := by
  unfold tat
  dsimp only
  split
  · rw [Int.sub_mul]
    omega
  · split
    · split
      · rw [Int.sub_mul]
        omega
      · rfl
    · rw [Int.sub_mul]
      omega
theorem rat_split (w : Nat) (c s z : Int) (ts : List Tm) (n : Nat) : rat (⟨w, c - s, z⟩ :: ts ++ [⟨w, s, z⟩]) n = rat (⟨w, c, z⟩ :: ts) n := by
  rw [rat_snoc, rat_cons, rat_cons]
  have := tat_sub w c s z n
  omega
theorem step_rev : ∀ xs : List V, xs.length ≤ 5 → stepV xs none (some (-1)) = xs.reverse
  | [], _ => by kernel_rfl
  | [_], _ => by kernel_rfl
  | [_, _], _ => by kernel_rfl
  | [_, _, _], _ => by kernel_rfl
  | [_, _, _, _], _ => by kernel_rfl
  | [_, _, _, _, _], _ => by kernel_rfl
  | _ :: _ :: _ :: _ :: _ :: _ :: _, h => by simp at h
theorem Rul.rev {H : Hp} {p : Addr} {ts : List Tm} {as : List Addr} (l : as.length = ts.length) (f : ∀ (i : Nat) (a : Addr) (t : Tm), as[i]? = some a → ts[i]? = some t → H a = some (.tup (tv t))) (g : H p = some (.lst (as.map V.ref).reverse)) : Rul H p ts.reverse := by
  refine ⟨as.reverse, by rw [g, List.map_reverse], by rw [List.length_reverse, List.length_reverse, l], fun i a t x y => ?_⟩
  have hi : i < as.length := by
    have := (List.getElem?_eq_some_iff.mp x).1
    rwa [List.length_reverse] at this
  rw [List.getElem?_reverse hi] at x
  rw [List.getElem?_reverse (by omega), ← l] at y
  exact f _ a t x y
theorem tat_small {t : Tm} (h : TmOk t) {n : Nat} (hn : n ≤ 61) : (tat t n).natAbs ≤ 1000000 * 2 ^ 370 := by
  obtain ⟨c0, c1, w2, p, r, s⟩ := h
  have hc : t.c.natAbs ≤ 1000000 := by omega
  unfold tat
  split
  · rename_i h
    have := p h
    rw [Int.natAbs_mul, Int.natAbs_pow]
    refine Nat.mul_le_mul hc (Nat.le_trans (Nat.pow_le_pow_left (show t.z.natAbs ≤ 2 ^ 6 by omega) n) ?_)
    rw [← Nat.pow_mul]
    exact Nat.pow_le_pow_right (by decide) (by omega)
  · split
    · rename_i h
      have := r h
      have e : 300 ≤ 2 ^ 370 := Nat.le_trans (show 300 ≤ 2 ^ 9 by decide) (Nat.pow_le_pow_right (by decide) (by decide))
      split
      · rw [Int.natAbs_mul]
        exact Nat.mul_le_mul hc (Nat.le_trans (show t.z.natAbs ≤ 300 by omega) e)
      · exact Nat.zero_le _
    · have hz := s (by omega)
      rw [Int.natAbs_mul, Int.natAbs_natCast]
      refine Nat.mul_le_mul hc (Nat.le_trans (Nat.pow_le_pow_left (show n ≤ 2 ^ 6 by omega) _) ?_)
      rw [← Nat.pow_mul]
      exact Nat.pow_le_pow_right (by decide) (by omega)
theorem rat_small {n : Nat} (hn : n ≤ 61) : ∀ {ts : List Tm}, (∀ t ∈ ts, TmOk t) → (rat ts n).natAbs ≤ ts.length * (1000000 * 2 ^ 370)
  | [], _ => Nat.zero_le _
  | t :: ts, h => by
    have a := tat_small (h t (List.mem_cons_self ..)) hn
    have b := rat_small hn (ts := ts) fun x m => h x (List.mem_cons_of_mem _ m)
    rw [rat_cons, List.length_cons, Nat.succ_mul]
    exact Nat.le_trans (Int.natAbs_add_le _ _) (by omega)
theorem ruv_wide {ts : List Tm} (h : ∀ t ∈ ts, TmOk t) (l : ts.length ≤ 12) {n : Nat} (hn : n ≤ 60) : wide 1900 (ruv ts n) := by
  refine (wide_lt (k := 420) (by decide) fun x hx => ?_).mono (by decide)
  unfold ruv tabL at hx
  obtain ⟨i, hi, rfl⟩ := List.mem_map.mp hx
  have hi := List.mem_range.mp hi
  have a := rat_small (n := i + 1) (by omega) h
  have b : ts.length * (1000000 * 2 ^ 370) ≤ 12 * (1000000 * 2 ^ 370) := Nat.mul_le_mul_right _ l
  have c : 12 * (1000000 * 2 ^ 370) < 2 ^ 420 := by
    rw [← Nat.mul_assoc, show 420 = 50 + 370 from rfl, Nat.pow_add]
    exact Nat.mul_lt_mul_of_pos_right (by decide) (Nat.pow_pos (by decide))
  omega

open SX
/-! ### texts of terms and rules -/
def brT (n : Int) : List Nat := if n < 0 then 40 :: (numT n ++ [41]) else numT n
def brkT (l : List Nat) : Option Int := if l.take 2 = [40, 45] ∧ l.drop (l.length - 1) = [41] then wholeT ((l.drop 1).take (l.length - 2)) else (match natT l with | some n => some (n : Int) | none => none)
def tmT (t : Tm) : List Nat := if t.w = 0 then brT t.c ++ [32, 42, 32] ++ brT t.z ++ [32, 94, 32, 110] else if t.w = 1 then brT t.c ++ [32, 42, 32, 114, 105, 110, 103, 32] ++ numT t.z else brT t.c ++ [32, 42, 32, 110, 32, 94, 32] ++ numT t.z
def tmW (t : Tm) : List (List Nat) := if t.w = 0 then [brT t.c, [42], brT t.z, [94], [110]] else if t.w = 1 then [brT t.c, [42], [114, 105, 110, 103], numT t.z] else [brT t.c, [42], [110], [94], numT t.z]
def ruleT (ts : List Tm) : List Nat := TL.joinL [32, 43, 32] (ts.map tmT)
theorem tmT_words (t : Tm) : tmT t = TL.joinL [32] (tmW t) := by
  unfold tmT tmW
  split
  · simp [TL.joinL]
  · split
    · simp [TL.joinL]
    · simp [TL.joinL]
theorem brT_free {n : Int} {c : Nat} (h : c ∈ brT n) : c = 40 ∨ c = 41 ∨ c = 45 ∨ (48 ≤ c ∧ c ≤ 57) := by
  unfold brT at h
  split at h
  · rcases List.mem_cons.mp h with h | h
    · exact .inl h
    · rcases List.mem_append.mp h with h | h
      · have := numT_free n c h
        omega
      · have := List.mem_singleton.mp h
        omega
  · have := numT_free n c h
    omega
theorem tmW_free {t : Tm} {l : List Nat} (h : l ∈ tmW t) {c : Nat} (hc : c ∈ l) : c = 40 ∨ c = 41 ∨ c = 42 ∨ c = 45 ∨ c = 94 ∨ (48 ≤ c ∧ c ≤ 57) ∨ (100 ≤ c ∧ c ≤ 120) := by
  have a : ∀ {n : Int} {c : Nat}, c ∈ brT n → c = 40 ∨ c = 41 ∨ c = 42 ∨ c = 45 ∨ c = 94 ∨ (48 ≤ c ∧ c ≤ 57) ∨ (100 ≤ c ∧ c ≤ 120) := fun h => by
    have := brT_free h
    omega
  have b : ∀ {n : Int} {c : Nat}, c ∈ numT n → c = 40 ∨ c = 41 ∨ c = 42 ∨ c = 45 ∨ c = 94 ∨ (48 ≤ c ∧ c ≤ 57) ∨ (100 ≤ c ∧ c ≤ 120) := fun h => by
    have := numT_free _ _ h
    omega
  unfold tmW at h
  split at h
  · simp only [List.mem_cons, List.not_mem_nil, or_false] at h
    rcases h with rfl | rfl | rfl | rfl | rfl
    · exact a hc
    · simp at hc
      omega
    · exact a hc
    · simp at hc
      omega
    · simp at hc
      omega
  · split at h
    · simp only [List.mem_cons, List.not_mem_nil, or_false] at h
      rcases h with rfl | rfl | rfl | rfl
      · exact a hc
      · simp at hc
        omega
      · simp at hc
        omega
      · exact b hc
    · simp only [List.mem_cons, List.not_mem_nil, or_false] at h
      rcases h with rfl | rfl | rfl | rfl | rfl
      · exact a hc
      · simp at hc
        omega
      · simp at hc
        omega
      · simp at hc
        omega
      · exact b hc
theorem split_term (t : Tm) : Txt.split (S (tmT t)) (S [32]) = (tmW t).map S := by
  rw [split_S (by decide) (by decide), tmT_words, spl_join]
  · unfold tmW
    split
    · simp
    · split <;> simp
  · intro p hp hc
    have := tmW_free hp hc
    omega
theorem joinL_mem (sep : List Nat) : ∀ {ps : List (List Nat)} {c : Nat}, c ∈ TL.joinL sep ps → c ∈ sep ∨ ∃ p ∈ ps, c ∈ p
  | [], c, h => by cases h
  | [p], c, h => .inr ⟨p, List.mem_singleton.mpr rfl, h⟩
  | p :: q :: r, c, h => by
    have h' : c ∈ p ++ (sep ++ TL.joinL sep (q :: r)) := h
    rcases List.mem_append.mp h' with h | h
    · exact .inr ⟨p, List.mem_cons_self .., h⟩
    · rcases List.mem_append.mp h with h | h
      · exact .inl h
      · rcases joinL_mem sep h with h | ⟨x, hx, h⟩
        · exact .inl h
        · exact .inr ⟨x, List.mem_cons_of_mem _ hx, h⟩
theorem tmT_no (t : Tm) : 43 ∉ tmT t := fun h => by
  rw [tmT_words] at h
  rcases joinL_mem _ h with h | ⟨p, hp, h⟩
  · simp at h
  · have := tmW_free hp h
    omega
theorem split_rule {ts : List Tm} (h : ts ≠ []) : Txt.split (S (ruleT ts)) (S [32, 43, 32]) = ts.map fun t => S (tmT t) := by
  rw [split_S (by decide) (by decide)]
  unfold ruleT
  rw [spl_plus (by simp [h])]
  · rw [List.map_map]
    rfl
  · intro p hp
    obtain ⟨t, _, rfl⟩ := List.mem_map.mp hp
    exact tmT_no t
theorem join_rule (ts : List Tm) : Txt.join (S [32, 43, 32]) (ts.map fun t => S (tmT t)) = S (ruleT ts) := by
  have := join_S [32, 43, 32] (ts.map tmT)
  rw [List.map_map] at this
  exact this
theorem num_small {n : Int} (h0 : -1000000000 ≤ n) (h1 : n ≤ 1000000000) : (numT n).length ≤ 12 := by
  have e : (10 : Int) ^ 11 = 100000000000 := by decide
  exact numT_len (k := 11) (by decide) (by rw [e]; omega) (by rw [e]; omega)
theorem br_small {n : Int} (h0 : -1000000000 ≤ n) (h1 : n ≤ 1000000000) : (brT n).length ≤ 14 := by
  have := num_small h0 h1
  unfold brT
  split
  · rw [List.length_cons, List.length_append]
    show _ + 1 + 1 ≤ 14
    omega
  · omega
theorem TmOk.zb {t : Tm} (h : TmOk t) : -1000000000 ≤ t.c ∧ t.c ≤ 1000000000 ∧ -1000000000 ≤ t.z ∧ t.z ≤ 1000000000 := by
  obtain ⟨c0, c1, w2, p, r, s⟩ := h
  have w : t.w = 0 ∨ t.w = 1 ∨ t.w = 2 := by omega
  rcases w with w | w | w
  · have := p w
    omega
  · have := r w
    omega
  · have := s w
    omega
theorem tm_small {t : Tm} (h : TmOk t) : (tmT t).length ≤ 40 := by
  obtain ⟨c0, c1, z0, z1⟩ := h.zb
  have a := br_small c0 c1
  have b := br_small z0 z1
  have c := num_small z0 z1
  unfold tmT
  split
  · simp only [List.length_append, List.length_cons, List.length_nil]
    omega
  · split
    · simp only [List.length_append, List.length_cons, List.length_nil]
      omega
    · simp only [List.length_append, List.length_cons, List.length_nil]
      omega
theorem lt1900 {n : Int} (h0 : -1000000000 ≤ n) (h1 : n ≤ 1000000000) : n.natAbs < 2 ^ 1900 := Nat.lt_of_lt_of_le (show n.natAbs < 2 ^ 40 by omega) (Nat.pow_le_pow_right (by decide) (by decide))
theorem ev_strN {σ : L2.St} {H : Hp} {te : TE} {n : Int} (h : Ev te σ H (.int n)) (h0 : -1000000000 ≤ n) (h1 : n ≤ 1000000000) : Ev (tCB (fun xs H Q => ∃ i, xs = [V.int i] ∧ i.natAbs.log2 < 1920 ∧ Q (.str (toString i)) H) (tCons te tNil)) σ H (.str (S (numT n))) := ev_is (ev_strI h (log_num (lt1900 h0 h1))) (congrArg V.str (str_num n))
theorem br_neg {n : Int} (h : n < 0) : brT n = 40 :: (numT n ++ [41]) := by
  unfold brT
  rw [if_pos h]
theorem br_pos {n : Int} (h : ¬ n < 0) : brT n = numT n := by
  unfold brT
  rw [if_neg h]
theorem numT_pos {n : Int} (h : 0 ≤ n) : numT n = TL.numL n.natAbs := by
  unfold numT
  rw [if_neg (by omega)]
theorem natT_int {n : Int} (h : 0 ≤ n) : optN (natT (numT n)) = .int n := by
  rw [numT_pos h, natT_num]
  show V.int (n.natAbs : Int) = _
  congr 1
  omega
theorem brkT_num (n : Int) : brkT (brT n) = some n := by
  unfold brkT
  by_cases h : n < 0
  · have e : brT n = 40 :: (numT n ++ [41]) := by
      unfold brT
      rw [if_pos h]
    have e2 : numT n = 45 :: TL.numL n.natAbs := by
      unfold numT
      rw [if_pos h]
    have e3 : (brT n).length = (numT n).length + 2 := by
      rw [e, List.length_cons, List.length_append]
      rfl
    have c1 : (brT n).take 2 = [40, 45] := by
      rw [e, e2]
      rfl
    have c2 : (brT n).drop ((brT n).length - 1) = [41] := by
      rw [e3, show (numT n).length + 2 - 1 = (numT n).length + 1 by omega, e, List.drop_succ_cons, List.drop_left]
    have c3 : ((brT n).drop 1).take ((brT n).length - 2) = numT n := by
      rw [e3, show (numT n).length + 2 - 2 = (numT n).length by omega, e, List.drop_succ_cons, List.drop_zero, List.take_left]
    rw [if_pos ⟨c1, c2⟩, c3, wholeT_num]
  · have e : brT n = TL.numL n.natAbs := by
      unfold brT
      rw [if_neg h, numT_pos (by omega)]
    rw [e, if_neg, natT_num]
    · show some ((n.natAbs : Nat) : Int) = some n
      congr 1
      omega
    · rintro ⟨z, _⟩
      cases e2 : TL.numL n.natAbs with
      | nil => exact TL.numL_ne _ e2
      | cons c r =>
        rw [e2] at z
        have : c = 40 := by
          cases r with
          | nil => simp at z
          | cons d r =>
            simp only [List.take_succ_cons, List.cons.injEq] at z
            exact z.1
        have := TL.numL_digits n.natAbs c (by rw [e2]; exact List.mem_cons_self ..)
        omega
theorem ends_S {l : List Nat} (c : Nat) : Txt.endswith (S l) (S [c]) = (l.drop (l.length - 1) == [c]) := by
  unfold Txt.endswith
  rw [PySem.StrLaws.subAt_eq, S_len, S_len]
  show (decide (0 + 1 ≤ l.length) && ((l.drop (l.length - 1)).take 1 == [c])) = _
  by_cases h : 1 ≤ l.length
  · rw [decide_eq_true (by omega), Bool.true_and, List.take_of_length_le (by rw [List.length_drop]; omega)]
  · rw [decide_eq_false (by omega), Bool.false_and, List.drop_eq_nil_of_le (by omega)]
    rfl
theorem cut_inner {l : List Nat} (h : 2 ≤ l.length) : cutS (S l) (some 1) (some (-1)) = S ((l.drop 1).take (l.length - 2)) := by
  unfold cutS
  have e1 : HT.sIx (S l).length 0 (some 1) = 1 := by
    rw [S_len]
    show (if (1 : Int) < 0 then ((1 : Int) + (l.length : Int)).toNat else min (1 : Int).toNat l.length) = 1
    rw [if_neg (by decide)]
    show min 1 l.length = 1
    omega
  have e2 : HT.sIx (S l).length (S l).length (some (-1)) = l.length - 1 := by
    rw [S_len]
    show (if (-1 : Int) < 0 then ((-1 : Int) + (l.length : Int)).toNat else min (-1 : Int).toNat l.length) = l.length - 1
    rw [if_pos (by decide)]
    omega
  rw [e1, e2]
  refine TL.ext_tl ?_
  show (l.drop 1).take (l.length - 1 - 1) = (l.drop 1).take (l.length - 2)
  rw [show l.length - 1 - 1 = l.length - 2 by omega]
theorem given_mapD {α : Type} (ts : List α) (f : α → List Nat) : given ts.length (fun _ => true) (fun i => V.str (S ((ts[i]?.map f).getD []))) = ts.map fun t => V.str (S (f t)) := by
  rw [given_all]
  refine List.ext_getElem (by simp) fun i h1 h2 => ?_
  simp at h1
  simp [h1]
theorem step_rev12 : ∀ xs : List V, xs.length ≤ 12 → stepV xs none (some (-1)) = xs.reverse
  | [], _ => by kernel_rfl
  | [_], _ => by kernel_rfl
  | [_, _], _ => by kernel_rfl
  | [_, _, _], _ => by kernel_rfl
  | [_, _, _, _], _ => by kernel_rfl
  | [_, _, _, _, _], _ => by kernel_rfl
  | [_, _, _, _, _, _], _ => by kernel_rfl
  | [_, _, _, _, _, _, _], _ => by kernel_rfl
  | [_, _, _, _, _, _, _, _], _ => by kernel_rfl
  | [_, _, _, _, _, _, _, _, _], _ => by kernel_rfl
  | [_, _, _, _, _, _, _, _, _, _], _ => by kernel_rfl
  | [_, _, _, _, _, _, _, _, _, _, _], _ => by kernel_rfl
  | [_, _, _, _, _, _, _, _, _, _, _, _], _ => by kernel_rfl
  | _ :: _ :: _ :: _ :: _ :: _ :: _ :: _ :: _ :: _ :: _ :: _ :: _ :: _, h => by simp at h
theorem Rul.drop {H : Hp} {as : List Addr} {ts : List Tm} (l : as.length = ts.length) (f : ∀ (i : Nat) (a : Addr) (t : Tm), as[i]? = some a → ts[i]? = some t → H a = some (.tup (tv t))) (k : Nat) : (as.drop k).length = (ts.drop k).length ∧ ∀ (i : Nat) (a : Addr) (t : Tm), (as.drop k)[i]? = some a → (ts.drop k)[i]? = some t → H a = some (.tup (tv t)) :=
  ⟨by rw [List.length_drop, List.length_drop, l], fun i a t x y => f (k + i) a t (by rw [List.getElem?_drop] at x; exact x) (by rw [List.getElem?_drop] at y; exact y)⟩
theorem Rul.revf {H : Hp} {as : List Addr} {ts : List Tm} (l : as.length = ts.length) (f : ∀ (i : Nat) (a : Addr) (t : Tm), as[i]? = some a → ts[i]? = some t → H a = some (.tup (tv t))) : as.reverse.length = ts.reverse.length ∧ ∀ (i : Nat) (a : Addr) (t : Tm), as.reverse[i]? = some a → ts.reverse[i]? = some t → H a = some (.tup (tv t)) := by
  refine ⟨by rw [List.length_reverse, List.length_reverse, l], fun i a t x y => ?_⟩
  have hi : i < as.length := by
    have := (List.getElem?_eq_some_iff.mp x).1
    rwa [List.length_reverse] at this
  rw [List.getElem?_reverse hi] at x
  rw [List.getElem?_reverse (by omega), ← l] at y
  exact f _ a t x y
theorem ruleT_one (t : Tm) : ruleT [t] = tmT t := rfl
theorem ruleT_111 : ruleT [⟨0, 1, 1⟩] = [49, 32, 42, 32, 49, 32, 94, 32, 110] := by
  have e : numT 1 = [49] := by
    rw [numT_pos (by decide), TL.numL_lt (by decide)]
    rfl
  show brT 1 ++ [32, 42, 32] ++ brT 1 ++ [32, 94, 32, 110] = _
  rw [br_pos (by decide), e]
  rfl
theorem cut_oneV {xs : List V} {j : Nat} {x : V} (h : xs[j]? = some x) : cutV xs (some (j : Int)) (some ((j : Int) + 1)) = [x] := by
  have hj := (List.getElem?_eq_some_iff.mp h).1
  have hx := (List.getElem?_eq_some_iff.mp h).2
  unfold cutV
  rw [show (j : Int) + 1 = ((j + 1 : Nat) : Int) from rfl, HT.sIx_nat, HT.sIx_nat, Nat.min_eq_left (by omega), Nat.min_eq_left (by omega), show j + 1 - j = 1 by omega, List.drop_eq_getElem_cons hj, hx]
  rfl
def RetR (ts : List Tm) (H : Hp) (Q : VK) : Prop := ∀ r H2, H r = none → Ex H H2 → Rul H2 r ts → Q (.ref r) H2
def SpR (sp : Sp) (vs : List V) (H : Hp) (ts : List Tm) : Prop := ∀ H1, Ex H H1 → ∀ Q : VK, RetR ts H1 Q → ∀ E : XK, sp vs H1 Q E
def EvR (te : TE) (σ : L2.St) (H : Hp) (ts : List Tm) : Prop := ∀ H1, Ex H H1 → ∀ Q : VK, RetR ts H1 Q → te σ H1 Q
section
variable {K : PySem.W.Frag} {σ : L2.St} {H : Hp} {te ta tb : TE} {t tk : TA} {ts : List Tm} {sp : Sp} {E : XK} {us zs : List V} {D : Ends} {tz : TS}
theorem er_call (h : EvA t σ H us) (hs : SpR sp (us ++ []) H ts) : EvR (tCall sp [] E t) σ H ts := fun H1 e Q q => h H1 e _ fun H2 e2 => hs H2 (e.trans e2) Q (fun r H3 hr e3 R => q r H3 (fresh_back e2 hr) (e2.trans e3) R) E
theorem er_callK {gV : List V → List V → List V} (h : EvA t σ H us) (h' : EvA tk σ H zs) (hs : SpR sp (gV us zs) H ts) : EvR (tCallK sp gV E t tk) σ H ts := fun H1 e Q q => h H1 e _ fun H2 e2 => h' H2 (e.trans e2) _ fun H3 e3 => hs H3 ((e.trans e2).trans e3) Q (fun r H4 hr e4 R => q r H4 (fresh_back (e2.trans e3) hr) ((e2.trans e3).trans e4) R) E
theorem q_asgR {i : Nat} (h : EvR te σ H ts) (k : ∀ r H1, H r = none → Ex H H1 → Rul H1 r ts → tz D (σ.set i (some (.ref r))) H1) : tSeq (tAsg te (gName i)) tz D σ H := h H (Ex.refl H) _ k
theorem er_lst1 {x : Tm} (h : EvU te σ H (tv x)) : EvR (tLst (tCons te tNil)) σ H [x] := fun H1 e Q q => h H1 e _ fun u H2 hu e2 g => ⟨sz_of (by show 1 ≤ 100000; decide), fun p hp => q p _ (fresh_back e2 hp) (e2.trans (Ex.new hp)) ⟨[u], upd_same, rfl, fun i b t x y => by
  match i, x, y with
  | 0, x, y =>
    cases x
    cases y
    exact (Ex.new hp) _ _ g
  | i + 1, x, y => cases x⟩⟩
theorem er_refs {bs : List Addr} (h : EvL te σ H (bs.map V.ref)) (l : bs.length = ts.length) (f : ∀ (i : Nat) (b : Addr) (t : Tm), bs[i]? = some b → ts[i]? = some t → H b = some (.tup (tv t))) : EvR te σ H ts := fun H1 e Q q => h H1 e _ fun p H2 hp e2 g => q p H2 hp e2 ⟨bs, g, l, fun i b t x y => (e.trans e2) _ _ (f i b t x y)⟩
theorem ev_callR {z : V} (h : EvR te σ H ts) (hs : ∀ r H1, Ex H H1 → Rul H1 r ts → SpV sp [.ref r] H1 z) : Ev (tCall sp [] E (tCons te tNil)) σ H z := fun H1 e Q q => h H1 e _ fun r H2 _ e2 R => hs r H2 (e.trans e2) R H2 (Ex.refl H2) Q (fun H3 e3 => q H3 (e2.trans e3)) E
theorem ed_R (h : EvR te σ H ts) : EvD K te σ H (rdat ts) := fun H1 e Q q => h H1 e _ fun r H2 hr e2 R => q _ H2 e2 R.dp
theorem ed_Rv {r : Addr} (h : Ev te σ H (.ref r)) (R : Rul H r ts) : EvD K te σ H (rdat ts) := ep_V h fun H1 e => (R.ex e).dp
end
theorem rdat_ok {ts : List Tm} (h : ∀ t ∈ ts, TmOk t) (l : ts.length ≤ 12) : Sho (rdat ts) := rdat_sho (fun t m => (h t m).zb) l
theorem kn_ok (w : Nat) : PyData.strOk (kn w) = true := by
  unfold kn
  split
  · exact strOk_of _
  · split
    · exact strOk_of _
    · exact strOk_of _
theorem rdat_can : ∀ ts : List Tm, PyData.canLayAll0 (ts.map tdat) = true ∧ PyData.depthAll (ts.map tdat) ≤ 1
  | [] => ⟨rfl, Nat.zero_le _⟩
  | t :: ts => by
    obtain ⟨a, b⟩ := rdat_can ts
    have s1 : (tdat t).canLay0 = true := by simp [tdat, PyData.canLay0, PyData.canLayAll0, kn_ok]
    have s3 : (tdat t).depth ≤ 1 := by simp [tdat, PyData.depth, PyData.depthAll]
    constructor
    · rw [List.map_cons, PyData.canLayAll0, s1, a]
      rfl
    · rw [List.map_cons, PyData.depthAll]
      omega
theorem rdat_shaped (ts : List Tm) : SeqAt.shaped (rdat ts) = true := by
  obtain ⟨a, b⟩ := rdat_can ts
  unfold SeqAt.shaped rdat
  rw [PyData.canLay0, PyData.depth, a, decide_eq_true (by omega)]
  rfl
theorem eqv_self_terms : ∀ ts : List Tm, PyData.eqvAll (ts.map tdat) (ts.map tdat) = true
  | [] => rfl
  | t :: ts => by
    rw [List.map_cons, PyData.eqvAll, eqv_self_terms ts]
    simp [tdat, PyData.eqv, PyData.eqvAll]
theorem eqv_rdat_self (ts : List Tm) : PyData.eqv (rdat ts) (rdat ts) = true := by
  unfold rdat
  rw [PyData.eqv, eqv_self_terms]
section
variable {K : PySem.W.Frag} {σ : L2.St} {H : Hp} {te ta tb : TE}
theorem rv_neR {r s : Addr} {ts : List Tm} (h : Rul H r ts) (h' : Rul H s ts) : RV (rNeD K) (.ref r) (.ref s) H (.bl false) := fun H1 e Q k =>
  ⟨rdat ts, rdat ts, (h.ex e).dp, (h'.ex e).dp, rdat_shaped ts, rdat_shaped ts, by rw [eqv_rdat_self]; exact k H1 (Ex.refl H1)⟩
end
theorem rule_sum {ts : List Tm} (ok : ∀ t ∈ ts, TmOk t) : ((ts.map fun t => S (tmT t)).map (·.length)).sum ≤ ts.length * 40 := by
  have e := PySem.StrLaws.sumLen_le (B := 40) (ts.map fun t => S (tmT t)) fun y hy => by
    obtain ⟨t, ht, rfl⟩ := List.mem_map.mp hy
    rw [S_len]
    exact tm_small (ok t ht)
  rw [List.length_map] at e
  exact e
theorem rule_fits {ts : List Tm} (ok : ∀ t ∈ ts, TmOk t) (l : ts.length ≤ 100) : ((ts.map fun t => S (tmT t)).map (·.length)).sum + (ts.map fun t => S (tmT t)).length * (S [32, 43, 32]).length ≤ 16777216 := by
  have e := rule_sum ok
  rw [List.length_map, S_len]
  show _ + ts.length * 3 ≤ _
  omega
theorem rule_len {ts : List Tm} (ok : ∀ t ∈ ts, TmOk t) (l : ts.length ≤ 100) : (ruleT ts).length ≤ 4300 := by
  have e := joinL_len [32, 43, 32] (ts.map tmT)
  have e2 := rule_sum ok
  rw [List.map_map] at e2
  have e3 : ((ts.map tmT).map (·.length)).sum = (ts.map ((·.length) ∘ fun t => S (tmT t))).sum := by
    rw [List.map_map]
    congr 1
  rw [e3, List.length_map] at e
  have e4 : ([32, 43, 32] : List Nat).length = 3 := rfl
  rw [e4] at e
  unfold ruleT
  omega
theorem refs_at {as : List Addr} {i : Nat} {x : V} (h : (as.map V.ref)[i]? = some x) : ∃ b, x = .ref b ∧ as[i]? = some b := by
  rw [List.getElem?_map] at h
  cases hg : as[i]? with
  | none =>
    rw [hg] at h
    cases h
  | some b =>
    rw [hg] at h
    cases h
    exact ⟨b, rfl, rfl⟩
/-- the texts of the terms of a rule, by any writer of a term -/
theorem el_texts {K : PySem.W.Frag} {σ : L2.St} {H : Hp} {tl te : TE} {r : Addr} {ts : List Tm} {j : Nat} {vs : List Nat} (R : Rul H r ts) (l : ts.length ≤ 100) (h : Ev tl σ H (.ref r)) (hw : ∀ x, wipe ((wipe σ vs).set j (some x)) vs = wipe σ vs)
    (he : ∀ (b : Addr) (t : Tm) H1, Ex H H1 → t ∈ ts → H1 b = some (.tup (tv t)) → Ev te ((wipe σ vs).set j (some (.ref b))) H1 (.str (S (tmT t)))) :
    EvL (tLc (iList K tl) (gName j) tYes te vs) σ H ((ts.map fun t => S (tmT t)).map V.str) := by
  obtain ⟨as, g, la, f⟩ := R
  refine el_is (el_lcL (fun _ => true) (fun i => V.str (S ((ts[i]?.map tmT).getD []))) h (sq_of g) (by rw [List.length_map]; omega) hw (fun _ _ _ _ _ => et_yes) ?_) ?_
  · intro i x H2 e2 hx _
    obtain ⟨b, rfl, hb⟩ := refs_at hx
    have hi := (List.getElem?_eq_some_iff.mp hb).1
    have hi' : i < ts.length := by omega
    have ht : ts[i]? = some (ts[i]'hi') := List.getElem?_eq_getElem _
    rw [ht]
    exact he b _ H2 e2 (List.getElem_mem _) (e2 _ _ (f i b _ hb ht))
  · rw [List.length_map, la, given_mapD ts tmT, List.map_map]
    rfl
/-- a list of drawn terms -/
theorem ewr_lc {a : Addr} {d1 d2 N n : Nat} {σ : L2.St} {H : Hp} {te to' : TE} {P : Int → Prop} {j : Nat} {vs : List Nat} (h : EvW a d1 te σ H (fun v => ∃ r, v = .int r ∧ P r)) (hP : ∀ r, P r → 0 ≤ r ∧ r ≤ N) (hN : N ≤ 40000) (hw : ∀ x, wipe ((wipe σ vs).set j (some x)) vs = wipe σ vs)
    (he : ∀ (i : Nat) (n : Nat) H1, But a H H1 → Well H1 a n → n + d2 ≤ 2 ^ 50 → ∀ Q : VK, (∀ p t H2, H1 p = none → But a H1 H2 → Well H2 a (n + d2) → H2 p = some (.tup (tv t)) → TmOk t → Q (.ref p) H2) → to' ((wipe σ vs).set j (some (.int (i : Int)))) H1 Q)
    (w : Well H a n) (l : n + (d1 + N * d2) ≤ 2 ^ 50) (Q : VK) (q : ∀ r ts H2, H r = none → But a H H2 → Well H2 a (n + (d1 + N * d2)) → Rul H2 r ts → P ts.length → (∀ t ∈ ts, TmOk t) → Q (.ref r) H2) : tLc (iRng1 (tCons te tNil)) (gName j) tYes to' vs σ H Q :=
  h n H (But.refl a H) w (by omega) _ fun v H1 b1 w1 ⟨r, er, pr⟩ => by
    subst er
    obtain ⟨r0, r1⟩ := hP r pr
    obtain ⟨m, rfl⟩ : ∃ m : Nat, r = m := ⟨r.toNat, by omega⟩
    have mle : m * d2 ≤ N * d2 := Nat.mul_le_mul_right _ (by omega)
    refine ⟨(m : Int), rfl, by omega, by omega, fun Dl hD => ?_⟩
    have nD : Dl ≠ a := w1.ne hD
    refine lc_range (lo := 0) (n := (m : Int).toNat) (fun i H' => But a H1 H' ∧ Well H' a (n + d1 + i * d2) ∧ ∃ (as : List Addr) (ts : List Tm), H' Dl = some (.lst (as.map .ref)) ∧ as.length = ts.length ∧ (∀ (k : Nat) (b : Addr) (t : Tm), as[k]? = some b → ts[k]? = some t → H' b = some (.tup (tv t))) ∧ ts.length = i ∧ ∀ t ∈ ts, TmOk t) ⟨But.new hD, ?_, [], [], upd_same, rfl, (fun _ _ _ h => nomatch h), rfl, fun x hx => nomatch hx⟩ (fun i H' hi p => ?_) (fun H' p => ?_)
    · rw [Nat.zero_mul, Nat.add_zero]
      exact w1.ex (Ex.new hD)
    · have e0 : (0 : Int) + (i : Int) = (i : Int) := Int.zero_add _
      show wipe ((wipe σ vs).set j (some (.int ((0 : Int) + (i : Int))))) vs = wipe σ vs ∧ tYes ((wipe σ vs).set j (some (.int ((0 : Int) + (i : Int))))) H' fun b H3 => if b = true then to' ((wipe σ vs).set j (some (.int ((0 : Int) + (i : Int))))) H3 fun y H4 => ∃ acc, H4 Dl = some (.lst acc) ∧ acc.length < sizeLine ∧ _ else _
      rw [e0]
      obtain ⟨p1, p2, as, ts, p3, la, pf, lt, ok⟩ := p
      have hi' : i < m := by omega
      have ile : i * d2 + d2 ≤ m * d2 := by
        rw [← Nat.succ_mul]
        exact Nat.mul_le_mul_right _ hi'
      refine ⟨hw _, et_yes H' (Ex.refl H') _ fun H3 e3 => ?_⟩
      have w3 := p2.ex e3
      obtain ⟨xa, ga⟩ := well_lst w3
      refine iteT (he i (n + d1 + i * d2) H3 ((b1.trans p1).trans (But.ex e3)) w3 (by omega) _ fun u t H4 hu b4 w4 gu okt => ?_)
      have gD := b4 _ _ nD (e3 _ _ p3)
      have up := tup_lst gu gD
      refine ⟨as.map .ref, gD, sz_lt (by rw [List.length_map]; omega), ((p1.trans (But.ex e3)).trans b4).own hD, ?_, as ++ [u], ts ++ [t], by rw [upd_same, List.map_append]; rfl, by rw [List.length_append, List.length_append, la]; rfl, fun k b t' hb ht => ?_, by rw [List.length_append, lt]; rfl, fun t' m => ?_⟩
      · obtain ⟨x, y', c, q1, q2⟩ := w4
        refine ⟨x, y', c, by rw [upd_ne (Ne.symm nD)]; exact q1, ?_⟩
        rw [Nat.succ_mul]
        obtain ⟨q2, q3, q4, q5⟩ := q2
        exact ⟨q2, q3, q4, by omega⟩
      · by_cases c : k < as.length
        · rw [List.getElem?_append_left c] at hb
          rw [List.getElem?_append_left (by omega)] at ht
          have gb := e3 _ _ (pf k b t' hb ht)
          rw [upd_ne (tup_lst (b4 _ _ (tup_lst gb ga) gb) gD)]
          exact b4 _ _ (tup_lst gb ga) gb
        · rw [List.getElem?_append_right (by omega)] at hb ht
          have hj := (List.getElem?_eq_some_iff.mp hb).1
          have e0 : k - as.length = 0 := by
            simp at hj
            omega
          rw [e0] at hb
          rw [show k - ts.length = 0 by omega] at ht
          cases hb
          cases ht
          rw [upd_ne up]
          exact gu
      · rcases List.mem_append.mp m with m | m
        · exact ok t' m
        · rw [List.mem_singleton.mp m]
          exact okt
    · obtain ⟨p1, p2, as, ts, p3, la, pf, lt, ok⟩ := p
      rw [Int.toNat_natCast] at p2 lt
      exact q Dl ts H' (but_free b1 w1 hD) (b1.trans p1) (p2.mono (by omega)) ⟨as, p3, la, pf⟩ (by rw [lt]; exact pr) ok

/-! ### what any text says -/
def natI (l : List Nat) : Option Int := match natT l with | some n => some (n : Int) | none => none
theorem optI_natI (l : List Nat) : optI (natI l) = optN (natT l) := by
  unfold natI
  cases natT l <;> rfl
def tmB (kd : Str) (c z : Option Int) : Bool := inZ c (-1000000) 1000000 && ((decide (kd = "power") && inZ z (-40) 40) || ((decide (kd = "ring") && inZ z 1 300) || (decide (kd = "places") && inZ z 1 6)))
def B1 (ws : List (List Nat)) : Bool := decide (ws.length = 5) && (decide (ws.getD 1 [] = [42]) && decide (ws.drop 3 = [[94], [110]]))
def B2 (ws : List (List Nat)) : Bool := decide (ws.length = 4) && decide ((ws.drop 1).take 2 = [[42], [114, 105, 110, 103]])
def B3 (ws : List (List Nat)) : Bool := decide (ws.length = 5) && decide ((ws.drop 1).take 3 = [[42], [110], [94]])
def rdW (ws : List (List Nat)) : Option (Nat × Option Int × Option Int) :=
  if B1 ws = true then some (0, brkT (ws.getD 0 []), brkT (ws.getD 2 [])) else if B2 ws = true then some (1, brkT (ws.getD 0 []), natI (ws.getD 3 [])) else if B3 ws = true then some (2, brkT (ws.getD 0 []), natI (ws.getD 4 [])) else none
def rdT (l : List Nat) : Option (Nat × Option Int × Option Int) := rdW (prts [32] l)
def rdB (o : Option (Nat × Option Int × Option Int)) : Bool := match o with | none => false | some (w, c, z) => tmB (kn w) c z
def readT (l : List Nat) : Option Tm := match rdT l with | some (w, some c, some z) => if tmB (kn w) (some c) (some z) = true then some ⟨w, c, z⟩ else none | _ => none
/-- a value that stands for what a text says -/
def RTv (v : V) (H : Hp) (o : Option (Nat × Option Int × Option Int)) : Prop := match o with | none => v = .non | some (w, c, z) => ∃ p, v = .ref p ∧ H p = some (.tup [.str (kn w), optI c, optI z])
theorem RTv.ex {v : V} {H H' : Hp} {o : Option (Nat × Option Int × Option Int)} (h : RTv v H o) (e : Ex H H') : RTv v H' o := by
  match o, h with
  | none, h => exact h
  | some (w, c, z), ⟨p, a, b⟩ => exact ⟨p, a, e _ _ b⟩
/-- what is_term is asked: a value, and what it answers -/
def JT (K : PySem.W.Frag) (H : Hp) (x : V) (b : Bool) : Prop := (∃ (a : Addr) (kd : Str) (cv zv : V) (co zo : Option Int), x = .ref a ∧ SqT K H a [.str kd, cv, zv] ∧ NV H cv co ∧ NV H zv zo ∧ b = tmB kd co zo) ∨
  (b = false ∧ ((∃ m, x = .int m) ∨ x = .non ∨ (∃ c, x = .bl c) ∨ (∃ s, x = .str s) ∨ (∃ a xs, x = .ref a ∧ SqL K H a xs) ∨ (∃ a kvs, x = .ref a ∧ H a = some (.dK kvs)) ∨ (∃ a xs, x = .ref a ∧ SqT K H a xs ∧ xs.length ≠ 3) ∨
    (∃ a k c z, x = .ref a ∧ SqT K H a [k, c, z] ∧ ((∃ m, k = .int m) ∨ k = .non ∨ (∃ c, k = .bl c) ∨ (∃ b xs, k = .ref b ∧ SqL K H b xs) ∨ (∃ b xs, k = .ref b ∧ SqT K H b xs)))))
theorem RTv.jt {K : PySem.W.Frag} {v : V} {H : Hp} {o : Option (Nat × Option Int × Option Int)} (h : RTv v H o) : JT K H v (rdB o) := by
  match o, h with
  | none, h => exact .inr ⟨rfl, .inr (.inl h)⟩
  | some (w, c, z), ⟨p, a, b⟩ => exact .inl ⟨p, kn w, optI c, optI z, c, z, a, st_of b, nv_opt c, nv_opt z, rfl⟩
theorem jt_tm {K : PySem.W.Frag} {H : Hp} {a : Addr} {t : Tm} (h : SqT K H a (tv t)) : JT K H (.ref a) (tmB (kn t.w) (some t.c) (some t.z)) := .inl ⟨a, kn t.w, .int t.c, .int t.z, some t.c, some t.z, rfl, h, rfl, rfl, rfl⟩
theorem kn_w {w : Nat} (h : w < 3) : (kn w = "power" ↔ w = 0) ∧ (kn w = "ring" ↔ w = 1) ∧ (kn w = "places" ↔ w = 2) := by
  match w, h with
  | 0, _ => exact ⟨⟨fun _ => rfl, fun _ => rfl⟩, ⟨fun h => absurd h (by decide), fun h => absurd h (by decide)⟩, ⟨fun h => absurd h (by decide), fun h => absurd h (by decide)⟩⟩
  | 1, _ => exact ⟨⟨fun h => absurd h (by decide), fun h => absurd h (by decide)⟩, ⟨fun _ => rfl, fun _ => rfl⟩, ⟨fun h => absurd h (by decide), fun h => absurd h (by decide)⟩⟩
  | 2, _ => exact ⟨⟨fun h => absurd h (by decide), fun h => absurd h (by decide)⟩, ⟨fun h => absurd h (by decide), fun h => absurd h (by decide)⟩, ⟨fun _ => rfl, fun _ => rfl⟩⟩
  | w + 3, h => exact absurd h (by omega)
theorem tmB_iff {w : Nat} {c z : Int} (h : w < 3) : tmB (kn w) (some c) (some z) = true ↔ TmOk ⟨w, c, z⟩ := by
  obtain ⟨k0, k1, k2⟩ := kn_w h
  unfold tmB inZ
  simp only [Bool.and_eq_true, Bool.or_eq_true, decide_eq_true_eq, k0, k1, k2]
  constructor
  · rintro ⟨⟨c0, c1⟩, hz⟩
    refine ⟨c0, c1, h, fun (e : w = 0) => ?_, fun (e : w = 1) => ?_, fun (e : w = 2) => ?_⟩
    · show -40 ≤ z ∧ z ≤ 40
      omega
    · show 1 ≤ z ∧ z ≤ 300
      omega
    · show 1 ≤ z ∧ z ≤ 6
      omega
  · rintro ⟨c0, c1, _, p, r, s⟩
    refine ⟨⟨c0, c1⟩, ?_⟩
    have hp : w = 0 → -40 ≤ z ∧ z ≤ 40 := p
    have hr : w = 1 → 1 ≤ z ∧ z ≤ 300 := r
    have hs : w = 2 → 1 ≤ z ∧ z ≤ 6 := s
    omega
theorem rdW_w {ws : List (List Nat)} {w : Nat} {c z : Option Int} (h : rdW ws = some (w, c, z)) : w < 3 := by
  unfold rdW at h
  split at h
  · cases h
    decide
  · split at h
    · cases h
      decide
    · split at h
      · cases h
        decide
      · cases h
theorem readT_ok {l : List Nat} {t : Tm} (h : readT l = some t) : TmOk t ∧ rdT l = some (t.w, some t.c, some t.z) ∧ rdB (rdT l) = true := by
  unfold readT at h
  split at h
  · rename_i w c z e
    split at h
    · rename_i hb
      cases h
      refine ⟨(tmB_iff (rdW_w e)).mp hb, e, ?_⟩
      rw [e]
      exact hb
    · cases h
  · cases h
theorem readT_no {l : List Nat} (h : readT l = none) : rdB (rdT l) = false := by
  unfold readT at h
  split at h
  · rename_i w c z e
    split at h
    · cases h
    · rename_i hb
      rw [e]
      exact Bool.not_eq_true _ ▸ hb
  · rename_i hn
    match e : rdT l with
    | none => rfl
    | some (w, none, z) => rfl
    | some (w, some c, none) =>
      show tmB (kn w) (some c) none = false
      unfold tmB inZ
      simp
    | some (w, some c, some z) => exact absurd e (hn w c z)
theorem prts_term (t : Tm) : prts [32] (tmT t) = tmW t := by
  have e := split_term t
  rw [prts_S (by decide) (by decide)] at e
  have e2 := congrArg (List.map TL.tl) e
  rw [List.map_map, List.map_map, show (TL.tl ∘ S) = id from rfl, List.map_id, List.map_id] at e2
  exact e2
theorem readT_tm {t : Tm} (ok : TmOk t) : readT (tmT t) = some t := by
  have key : rdT (tmT t) = some (t.w, some t.c, some t.z) := by
    obtain ⟨w, c, z⟩ := t
    have w2 : w < 3 := ok.w2
    have hr : w = 1 → 1 ≤ z ∧ z ≤ 300 := ok.r
    have hs : w = 2 → 1 ≤ z ∧ z ≤ 6 := ok.s
    have nz : ∀ {z : Int}, 0 ≤ z → natI (numT z) = some z := fun {z} h => by
      unfold natI
      rw [numT_pos h, natT_num]
      show some ((z.natAbs : Nat) : Int) = some z
      congr 1
      omega
    unfold rdT
    rw [prts_term]
    match w, w2 with
    | 0, _ =>
      have e : tmW ⟨0, c, z⟩ = [brT c, [42], brT z, [94], [110]] := rfl
      have b : B1 [brT c, [42], brT z, [94], [110]] = true := rfl
      rw [e]
      unfold rdW
      rw [if_pos b]
      show some (0, brkT (brT c), brkT (brT z)) = _
      rw [brkT_num, brkT_num]
    | 1, _ =>
      have e : tmW ⟨1, c, z⟩ = [brT c, [42], [114, 105, 110, 103], numT z] := rfl
      have b : B1 [brT c, [42], [114, 105, 110, 103], numT z] = false := rfl
      have b2 : B2 [brT c, [42], [114, 105, 110, 103], numT z] = true := rfl
      rw [e]
      unfold rdW
      rw [if_neg (by rw [b]; exact Bool.false_ne_true), if_pos b2]
      show some (1, brkT (brT c), natI (numT z)) = _
      rw [brkT_num, nz (by have := hr rfl; omega)]
    | 2, _ =>
      have e : tmW ⟨2, c, z⟩ = [brT c, [42], [110], [94], numT z] := rfl
      have nn : numT z ≠ [110] := fun h => by
        have := numT_free z 110 (by rw [h]; exact List.mem_singleton.mpr rfl)
        omega
      have b : B1 [brT c, [42], [110], [94], numT z] = false := by
        unfold B1
        rw [show decide (([brT c, [42], [110], [94], numT z] : List (List Nat)).drop 3 = [[94], [110]]) = false from decide_eq_false fun h => nn (by
          have h' : ([[94], numT z] : List (List Nat)) = [[94], [110]] := h
          injection h' with _ h'
          injection h')]
        rfl
      have b2 : B2 [brT c, [42], [110], [94], numT z] = false := rfl
      have b3 : B3 [brT c, [42], [110], [94], numT z] = true := rfl
      rw [e]
      unfold rdW
      rw [if_neg (by rw [b]; exact Bool.false_ne_true), if_neg (by rw [b2]; exact Bool.false_ne_true), if_pos b3]
      show some (2, brkT (brT c), natI (numT z)) = _
      rw [brkT_num, nz (by have := hs rfl; omega)]
    | w + 3, h => exact absurd h (by omega)
  unfold readT
  rw [key]
  exact if_pos ((tmB_iff ok.w2).mpr ok)
theorem prts_row {ns : List Int} (h : ns ≠ []) : prts [44, 32] (rowT ns) = ns.map numT := by
  have e := split_row h
  rw [prts_S (by decide) (by decide)] at e
  have e2 := congrArg (List.map TL.tl) e
  rw [List.map_map, List.map_map, show (TL.tl ∘ S) = id from rfl, List.map_id, show (TL.tl ∘ fun n => S (numT n)) = numT from rfl] at e2
  exact e2
theorem prts_rule {ts : List Tm} (h : ts ≠ []) : prts [32, 43, 32] (ruleT ts) = ts.map tmT := by
  have e := split_rule h
  rw [prts_S (by decide) (by decide)] at e
  have e2 := congrArg (List.map TL.tl) e
  rw [List.map_map, List.map_map, show (TL.tl ∘ S) = id from rfl, List.map_id, show (TL.tl ∘ fun t => S (tmT t)) = tmT from rfl] at e2
  exact e2

theorem rowT_inj {ns ms : List Int} (h : ns ≠ []) (h' : ms ≠ []) (e : rowT ns = rowT ms) : ns = ms := by
  have e1 := prts_row h
  rw [e, prts_row h'] at e1
  exact (List.map_inj_right fun _ _ z => numT_inj z).mp e1.symm
theorem rowT_app : ∀ {ns ms : List Int}, ns ≠ [] → ms ≠ [] → rowT ns ++ [44, 32] ++ rowT ms = rowT (ns ++ ms)
  | [], _, h, _ => absurd rfl h
  | [n], m :: ms, _, _ => by
    show numT n ++ [44, 32] ++ rowT (m :: ms) = numT n ++ ([44, 32] ++ rowT (m :: ms))
    rw [List.append_assoc]
  | n :: n2 :: ns, m :: ms, _, h => by
    have ih := rowT_app (ns := n2 :: ns) (ms := m :: ms) (by simp) h
    show (numT n ++ ([44, 32] ++ rowT (n2 :: ns))) ++ [44, 32] ++ rowT (m :: ms) = numT n ++ ([44, 32] ++ rowT (n2 :: ns ++ m :: ms))
    rw [← ih]
    simp only [List.append_assoc]
  | _ :: _, [], _, h => absurd rfl h
theorem ruleT_app : ∀ {ts us : List Tm}, ts ≠ [] → us ≠ [] → ruleT ts ++ [32, 43, 32] ++ ruleT us = ruleT (ts ++ us)
  | [], _, h, _ => absurd rfl h
  | [n], m :: ms, _, _ => by
    show tmT n ++ [32, 43, 32] ++ ruleT (m :: ms) = tmT n ++ ([32, 43, 32] ++ ruleT (m :: ms))
    rw [List.append_assoc]
  | n :: n2 :: ns, m :: ms, _, h => by
    have ih := ruleT_app (ts := n2 :: ns) (us := m :: ms) (by simp) h
    show (tmT n ++ ([32, 43, 32] ++ ruleT (n2 :: ns))) ++ [32, 43, 32] ++ ruleT (m :: ms) = tmT n ++ ([32, 43, 32] ++ ruleT (n2 :: ns ++ m :: ms))
    rw [← ih]
    simp only [List.append_assoc]
  | _ :: _, [], _, h => absurd rfl h
theorem map_some_inj {α : Type} : ∀ {xs ys : List α}, xs.map some = ys.map some → xs = ys
  | [], [], _ => rfl
  | [], _ :: _, h => by cases h
  | _ :: _, [], h => by cases h
  | x :: xs, y :: ys, h => by
    injection h with h1 h2
    rw [Option.some.inj h1, map_some_inj h2]
theorem ruleT_inj {ts us : List Tm} (h : ts ≠ []) (h' : us ≠ []) (ok : ∀ t ∈ ts, TmOk t) (ok' : ∀ t ∈ us, TmOk t) (e : ruleT ts = ruleT us) : ts = us := by
  have e1 := prts_rule h
  rw [e, prts_rule h'] at e1
  have e2 := congrArg (List.map readT) e1
  rw [List.map_map, List.map_map] at e2
  have m : ∀ {vs : List Tm}, (∀ t ∈ vs, TmOk t) → vs.map (readT ∘ tmT) = vs.map some := fun {vs} hv => List.map_congr_left fun t ht => readT_tm (hv t ht)
  rw [m ok, m ok'] at e2
  exact (map_some_inj e2).symm
theorem kn_inj {v w : Nat} (hv : v < 3) (hw : w < 3) (h : kn v = kn w) : v = w := by
  obtain ⟨k0, k1, k2⟩ := kn_w hv
  obtain ⟨l0, l1, l2⟩ := kn_w hw
  have e : v = 0 ∨ v = 1 ∨ v = 2 := by omega
  rcases e with e | e | e
  · exact e.trans (l0.mp (h.symm.trans (k0.mpr e))).symm
  · exact e.trans (l1.mp (h.symm.trans (k1.mpr e))).symm
  · exact e.trans (l2.mp (h.symm.trans (k2.mpr e))).symm
theorem eqv_tm {t u : Tm} (ht : t.w < 3) (hu : u.w < 3) : PyData.eqv (tdat t) (tdat u) = true ↔ t = u := by
  obtain ⟨w, c, z⟩ := t
  obtain ⟨w', c', z'⟩ := u
  unfold tdat
  simp only [PyData.eqv, PyData.eqvAll, Bool.and_true, Bool.and_eq_true, beq_iff_eq, Tm.mk.injEq]
  constructor
  · rintro ⟨a, b, c⟩
    exact ⟨kn_inj ht hu a, b, c⟩
  · rintro ⟨a, b, c⟩
    exact ⟨by rw [a], b, c⟩
theorem eqv_tms : ∀ {ts us : List Tm}, (∀ t ∈ ts, TmOk t) → (∀ t ∈ us, TmOk t) → (PyData.eqvAll (ts.map tdat) (us.map tdat) = true ↔ ts = us)
  | [], [], _, _ => ⟨fun _ => rfl, fun _ => rfl⟩
  | [], _ :: _, _, _ => ⟨fun h => by simp [PyData.eqvAll] at h, fun h => by cases h⟩
  | _ :: _, [], _, _ => ⟨fun h => by simp [PyData.eqvAll] at h, fun h => by cases h⟩
  | t :: ts, u :: us, h, h' => by
    have ih := eqv_tms (ts := ts) (us := us) (fun x m => h x (List.mem_cons_of_mem _ m)) fun x m => h' x (List.mem_cons_of_mem _ m)
    have it := eqv_tm (h t (List.mem_cons_self ..)).w2 (h' u (List.mem_cons_self ..)).w2
    rw [List.map_cons, List.map_cons, PyData.eqvAll, Bool.and_eq_true, ih, it, List.cons.injEq]
theorem eqv_rdat {ts us : List Tm} (h : ∀ t ∈ ts, TmOk t) (h' : ∀ t ∈ us, TmOk t) : PyData.eqv (rdat ts) (rdat us) = true ↔ ts = us := by
  unfold rdat
  rw [PyData.eqv]
  exact eqv_tms h h'
section
variable {K : PySem.W.Frag} {σ : L2.St} {H : Hp} {ta tb : TE} {ts us : List Tm}
theorem ev_neRR (h : EvR ta σ H ts) (h' : EvR tb σ H ts) : Ev (tOp (rNeD K) ta tb) σ H (.bl false) := fun H1 e Q k =>
  h H1 e _ fun r H2 _ e2 R => h' H2 (e.trans e2) _ fun s H3 _ e3 R3 => ⟨rdat ts, rdat ts, (R.ex e3).dp, R3.dp, rdat_shaped ts, rdat_shaped ts, by rw [eqv_rdat_self]; exact k H3 (e2.trans e3)⟩
theorem rv_eqR {r s : Addr} (h : Rul H r ts) (h' : Rul H s us) : RV (rEqD K) (.ref r) (.ref s) H (.bl (PyData.eqv (rdat ts) (rdat us))) := fun H1 e Q k =>
  ⟨rdat ts, rdat us, (h.ex e).dp, (h'.ex e).dp, rdat_shaped ts, rdat_shaped us, k H1 (Ex.refl H1)⟩
end
/-- the first part of a text that is no number, no term -/
def badRow (l : List Nat) (i : Nat) : Prop := l.length ≤ 90000 ∧ (∀ p ∈ prts [44, 32] l, p.length ≤ 640) ∧ ∃ p, (prts [44, 32] l)[i]? = some p ∧ wholeT p = none ∧ ∀ k q, k < i → (prts [44, 32] l)[k]? = some q → wholeT q ≠ none
def badRule (l : List Nat) (i : Nat) : Prop := l.length ≤ 100000 ∧ (l.all fun c => decide (c < 1114112)) = true ∧ (∀ p ∈ prts [32, 43, 32] l, ∀ w ∈ prts [32] p, w.length ≤ 640) ∧ ∃ p, (prts [32, 43, 32] l)[i]? = some p ∧ (12 ≤ i ∨ readT p = none) ∧ ∀ k q, k < i → (prts [32, 43, 32] l)[k]? = some q → k < 12 ∧ readT q ≠ none
theorem prts_one {s : Nat} {sep l : List Nat} (h : s ∉ l) : prts (s :: sep) l = [l] := by
  unfold prts
  rw [TL.spl_last1 h]
  rfl
theorem tm_head (t : Tm) : ∃ c r, tmT t = c :: r ∧ c ≠ 45 := by
  have hb : ∃ c r, brT t.c = c :: r ∧ c ≠ 45 := by
    unfold brT
    split
    · exact ⟨40, _, rfl, by decide⟩
    · rename_i hn
      rw [numT_pos (by omega)]
      cases e : TL.numL t.c.natAbs with
      | nil => exact absurd e (TL.numL_ne _)
      | cons c r =>
        have := TL.numL_digits t.c.natAbs c (by rw [e]; exact List.mem_cons_self ..)
        exact ⟨c, r, rfl, by omega⟩
  obtain ⟨c, r, e, hc⟩ := hb
  unfold tmT
  rw [e]
  split
  · exact ⟨c, _, rfl, hc⟩
  · split
    · exact ⟨c, _, rfl, hc⟩
    · exact ⟨c, _, rfl, hc⟩
theorem tm_blank (t : Tm) : 32 ∈ tmT t := by
  unfold tmT
  split
  · simp
  · split <;> simp
theorem ruleT_all {ts : List Tm} {c : Nat} (h : c ∈ ruleT ts) : c = 32 ∨ c = 43 ∨ c = 40 ∨ c = 41 ∨ c = 42 ∨ c = 45 ∨ c = 94 ∨ (48 ≤ c ∧ c ≤ 57) ∨ (100 ≤ c ∧ c ≤ 120) := by
  rcases joinL_mem _ h with h | ⟨p, hp, h⟩
  · simp only [List.mem_cons, List.not_mem_nil, or_false] at h
    omega
  · obtain ⟨t, _, rfl⟩ := List.mem_map.mp hp
    rw [tmT_words] at h
    rcases joinL_mem _ h with h | ⟨w, hw, h⟩
    · simp only [List.mem_cons, List.not_mem_nil, or_false] at h
      omega
    · have := tmW_free hw h
      omega
theorem rowT_all {ns : List Int} {c : Nat} (h : c ∈ rowT ns) : c = 32 ∨ c = 44 ∨ c = 45 ∨ (48 ≤ c ∧ c ≤ 57) := by
  rcases joinL_mem _ h with h | ⟨p, hp, h⟩
  · simp only [List.mem_cons, List.not_mem_nil, or_false] at h
    omega
  · obtain ⟨n, _, rfl⟩ := List.mem_map.mp hp
    have := numT_free n c h
    omega
theorem bad_row_rule {ts : List Tm} (h0 : 0 < ts.length) (h1 : ts.length ≤ 12) (ok : ∀ t ∈ ts, TmOk t) : badRow (ruleT ts) 0 := by
  have hl := rule_len ok (by omega)
  have hl2 : (ruleT ts).length ≤ 640 := by
    have e := joinL_len [32, 43, 32] (ts.map tmT)
    have e2 := rule_sum ok
    rw [List.map_map] at e2
    have e3 : ((ts.map tmT).map (·.length)).sum = (ts.map ((·.length) ∘ fun t => S (tmT t))).sum := by
      rw [List.map_map]
      congr 1
    rw [e3, List.length_map] at e
    have e4 : ([32, 43, 32] : List Nat).length = 3 := rfl
    rw [e4] at e
    unfold ruleT
    omega
  have pr : prts [44, 32] (ruleT ts) = [ruleT ts] := prts_one fun h => by
    have := ruleT_all h
    omega
  refine ⟨by omega, ?_, ruleT ts, by rw [pr]; rfl, ?_, fun k q hk => absurd hk (by omega)⟩
  · rw [pr]
    intro p hp
    rw [List.mem_singleton.mp hp]
    exact hl2
  · obtain ⟨t, us, rfl⟩ : ∃ t us, ts = t :: us := by
      cases ts with
      | nil => cases h0
      | cons t us => exact ⟨t, us, rfl⟩
    have hm : ∀ c ∈ tmT t, c ∈ ruleT (t :: us) := fun c hc => joinL_sub _ (List.mem_cons_self ..) c hc
    have hh : ∃ c r, ruleT (t :: us) = c :: r ∧ c ≠ 45 := by
      obtain ⟨c, r, e, hc⟩ := tm_head t
      unfold ruleT
      cases us with
      | nil => exact ⟨c, r, e, hc⟩
      | cons u us =>
        refine ⟨c, r ++ ([32, 43, 32] ++ TL.joinL [32, 43, 32] ((u :: us).map tmT)), ?_, hc⟩
        show tmT t ++ _ = _
        rw [e]
        rfl
    obtain ⟨c, r, e, hc⟩ := hh
    unfold wholeT
    rw [if_neg (by rw [e]; intro z; injection z with z; exact hc z)]
    have en : natT (ruleT (t :: us)) = none := by
      unfold natT
      rw [if_neg fun z => ?_]
      have := List.all_eq_true.mp z.1 32 (hm 32 (tm_blank t))
      exact absurd this (by decide)
    rw [en]
theorem bad_rule_row {ns : List Int} (h0 : ns ≠ []) (h1 : ns.length ≤ 100) (hz : ∀ z ∈ ns, NumOk z) : badRule (rowT ns) 0 := by
  have ok := rt_ok (List.length_pos_iff.mpr h0) (by omega) hz
  have pr : prts [32, 43, 32] (rowT ns) = [rowT ns] := by
    have nm : 43 ∉ rowT ns := fun h => by
      have := rowT_all h
      omega
    have := spl_plus (parts := [rowT ns]) (by simp) (fun p hp => by rw [List.mem_singleton.mp hp]; exact nm)
    exact this
  have lim : (rowT ns).length ≤ 64200 := by
    have e := joinL_len [44, 32] (ns.map numT)
    have e2 := ok.sum
    rw [List.map_map] at e2
    have e3 : ((ns.map numT).map (·.length)).sum = (ns.map ((·.length) ∘ fun n => S (numT n))).sum := by
      rw [List.map_map]
      congr 1
    rw [e3, List.length_map] at e
    have e4 : ([44, 32] : List Nat).length = 2 := rfl
    rw [e4] at e
    unfold rowT
    omega
  have no42 : ∀ w ∈ prts [32] (rowT ns), w ≠ [42] := fun w hw z => by
    have := rowT_all (prts_mem (by decide) (by decide) hw (c := 42) (by rw [z]; exact List.mem_singleton.mpr rfl))
    omega
  refine ⟨by omega, ?_, ?_, rowT ns, by rw [pr]; rfl, .inr ?_, fun k q hk => absurd hk (by omega)⟩
  · rw [List.all_eq_true]
    intro c hc
    have := rowT_all hc
    exact decide_eq_true (by omega)
  · rw [pr]
    intro p hp w hw
    rw [List.mem_singleton.mp hp] at hw
    have wd : ∀ {ms : List Int}, ms ≠ [] → (∀ m ∈ ms, (numT m).length ≤ 639) → ∀ w ∈ prts [32] (rowT ms), w.length ≤ 640 := fun {ms} hne hms => by
      induction ms with
      | nil => exact absurd rfl hne
      | cons m ms ih =>
        have hm := hms m (List.mem_cons_self ..)
        have f32 : ∀ {q : List Nat}, (∀ c ∈ q, c = 45 ∨ (48 ≤ c ∧ c ≤ 57) ∨ c = 44) → 32 ∉ q := fun h z => by
          have := h 32 z
          omega
        cases ms with
        | nil =>
          intro w hw
          have e : rowT [m] = numT m := rfl
          rw [e, prts_one (f32 fun c hc => by have := numT_free m c hc; omega)] at hw
          rw [List.mem_singleton.mp hw]
          omega
        | cons m2 ms =>
          intro w hw
          have e : rowT (m :: m2 :: ms) = (numT m ++ [44]) ++ ([32] ++ rowT (m2 :: ms)) := by
            show numT m ++ ([44, 32] ++ rowT (m2 :: ms)) = _
            simp
          unfold prts at hw
          rw [e, show ([32] : List Nat) ++ rowT (m2 :: ms) = 32 :: [] ++ rowT (m2 :: ms) from rfl, TL.spl_part1 (f32 fun c hc => by
            rcases List.mem_append.mp hc with h | h
            · have := numT_free m c h
              omega
            · have := List.mem_singleton.mp h
              omega), List.nil_append] at hw
          rcases List.mem_cons.mp hw with rfl | hw
          · rw [List.length_append]
            show _ + 1 ≤ 640
            omega
          · exact ih (by simp) (fun x hx => hms x (List.mem_cons_of_mem _ hx)) w hw
    exact wd h0 (fun m hm => by have := num_len (hz m hm); omega) w hw
  · have en : rdT (rowT ns) = none := by
      have b1 : B1 (prts [32] (rowT ns)) = false := by
        unfold B1
        by_cases h5 : (prts [32] (rowT ns)).length = 5
        · have n1 : (prts [32] (rowT ns)).getD 1 [] ≠ [42] := by
            rw [List.getD_eq_getElem?_getD, List.getElem?_eq_getElem (by omega)]
            exact no42 _ (List.getElem_mem _)
          rw [decide_eq_false n1]
          simp
        · rw [decide_eq_false h5]
          rfl
      have b2 : B2 (prts [32] (rowT ns)) = false := by
        have nn : ¬ ((prts [32] (rowT ns)).drop 1).take 2 = [[42], [114, 105, 110, 103]] := fun z => no42 [42] (List.mem_of_mem_drop (List.mem_of_mem_take (by rw [z]; exact List.mem_cons_self ..))) rfl
        unfold B2
        rw [decide_eq_false nn]
        simp
      have b3 : B3 (prts [32] (rowT ns)) = false := by
        have nn : ¬ ((prts [32] (rowT ns)).drop 1).take 3 = [[42], [110], [94]] := fun z => no42 [42] (List.mem_of_mem_drop (List.mem_of_mem_take (by rw [z]; exact List.mem_cons_self ..))) rfl
        unfold B3
        rw [decide_eq_false nn]
        simp
      unfold rdT rdW
      rw [if_neg (by rw [b1]; exact Bool.false_ne_true), if_neg (by rw [b2]; exact Bool.false_ne_true), if_neg (by rw [b3]; exact Bool.false_ne_true)]
    unfold readT
    rw [en]
theorem words_rule {ts : List Tm} (h : ts ≠ []) (ok : ∀ t ∈ ts, TmOk t) : ∀ p ∈ prts [32, 43, 32] (ruleT ts), ∀ w ∈ prts [32] p, w.length ≤ 640 := fun p hp w hw => by
  rw [prts_rule h] at hp
  obtain ⟨t, ht, rfl⟩ := List.mem_map.mp hp
  have := prts_len (by decide) (by decide) hw
  have := tm_small (ok t ht)
  omega
theorem asc_rule (ts : List Tm) : ((ruleT ts).all fun c => decide (c < 1114112)) = true := by
  rw [List.all_eq_true]
  intro c hc
  have := ruleT_all hc
  exact decide_eq_true (by omega)
theorem rule_at {ts : List Tm} (h : ts ≠ []) (ok : ∀ t ∈ ts, TmOk t) {k : Nat} {q : List Nat} (e : (prts [32, 43, 32] (ruleT ts))[k]? = some q) : ∃ t, ts[k]? = some t ∧ q = tmT t ∧ readT q = some t := by
  rw [prts_rule h, List.getElem?_map] at e
  cases g : ts[k]? with
  | none =>
    rw [g] at e
    cases e
  | some t =>
    rw [g] at e
    cases e
    exact ⟨t, rfl, rfl, readT_tm (ok t (List.mem_of_getElem? g))⟩
theorem bad_rule_long {ts : List Tm} (h0 : 12 < ts.length) (h1 : ts.length ≤ 100) (ok : ∀ t ∈ ts, TmOk t) : badRule (ruleT ts) 12 := by
  have ne : ts ≠ [] := fun z => by rw [z] at h0; cases h0
  have hl := rule_len ok h1
  have e12 : (prts [32, 43, 32] (ruleT ts))[12]? = some (tmT ts[12]) := by
    rw [prts_rule ne, List.getElem?_map, List.getElem?_eq_getElem h0]
    rfl
  refine ⟨by omega, asc_rule ts, words_rule ne ok, _, e12, .inl (Nat.le_refl _), fun k q hk e => ⟨hk, ?_⟩⟩
  obtain ⟨t, _, _, er⟩ := rule_at ne ok e
  rw [er]
  exact fun z => by cases z

/-! ### terms beyond the bounds -/
structure TmN (t : Tm) : Prop where
  w2 : t.w < 3
  c : NumOk t.c
  z : NumOk t.z
theorem numok_of {n : Int} (h0 : -1000000000 ≤ n) (h1 : n ≤ 1000000000) : NumOk n := by
  unfold NumOk
  rw [p60]
  omega
theorem TmOk.n {t : Tm} (h : TmOk t) : TmN t := by
  obtain ⟨c0, c1, z0, z1⟩ := h.zb
  exact ⟨h.w2, numok_of c0 c1, numok_of z0 z1⟩
theorem br_len {n : Int} (h : NumOk n) : (brT n).length ≤ 64 := by
  have := num_len h
  unfold brT
  split
  · rw [List.length_cons, List.length_append]
    show _ + 1 + 1 ≤ 64
    omega
  · omega
theorem tm_len {t : Tm} (h : TmN t) : (tmT t).length ≤ 140 := by
  have a := br_len h.c
  have b := br_len h.z
  have c := num_len h.z
  unfold tmT
  split
  · simp only [List.length_append, List.length_cons, List.length_nil]
    omega
  · split
    · simp only [List.length_append, List.length_cons, List.length_nil]
      omega
    · simp only [List.length_append, List.length_cons, List.length_nil]
      omega
theorem natI_num (z : Int) : natI (numT z) = if z < 0 then none else some z := by
  unfold natI
  by_cases h : z < 0
  · have e : natT (numT z) = none := by
      unfold natT
      rw [if_neg fun c => ?_]
      have := List.all_eq_true.mp c.1 45 (by unfold numT; rw [if_pos h]; exact List.mem_cons_self ..)
      exact absurd this (by decide)
    rw [e, if_pos h]
  · rw [numT_pos (by omega), natT_num, if_neg h]
    show some ((z.natAbs : Nat) : Int) = some z
    congr 1
    omega
theorem rdT_tm {t : Tm} (h : t.w < 3) : rdT (tmT t) = some (t.w, some t.c, if t.w = 0 then some t.z else if t.z < 0 then none else some t.z) := by
  obtain ⟨w, c, z⟩ := t
  have w2 : w < 3 := h
  unfold rdT
  rw [prts_term]
  match w, w2 with
  | 0, _ =>
    have e : tmW ⟨0, c, z⟩ = [brT c, [42], brT z, [94], [110]] := rfl
    have b : B1 [brT c, [42], brT z, [94], [110]] = true := rfl
    rw [e]
    unfold rdW
    rw [if_pos b]
    show some (0, brkT (brT c), brkT (brT z)) = _
    rw [brkT_num, brkT_num]
    rfl
  | 1, _ =>
    have e : tmW ⟨1, c, z⟩ = [brT c, [42], [114, 105, 110, 103], numT z] := rfl
    have b : B1 [brT c, [42], [114, 105, 110, 103], numT z] = false := rfl
    have b2 : B2 [brT c, [42], [114, 105, 110, 103], numT z] = true := rfl
    rw [e]
    unfold rdW
    rw [if_neg (by rw [b]; exact Bool.false_ne_true), if_pos b2]
    show some (1, brkT (brT c), natI (numT z)) = _
    rw [brkT_num, natI_num]
    rfl
  | 2, _ =>
    have e : tmW ⟨2, c, z⟩ = [brT c, [42], [110], [94], numT z] := rfl
    have nn : numT z ≠ [110] := fun h => by
      have := numT_free z 110 (by rw [h]; exact List.mem_singleton.mpr rfl)
      omega
    have b : B1 [brT c, [42], [110], [94], numT z] = false := by
      unfold B1
      rw [show decide (([brT c, [42], [110], [94], numT z] : List (List Nat)).drop 3 = [[94], [110]]) = false from decide_eq_false fun h => nn (by
        have h' : ([[94], numT z] : List (List Nat)) = [[94], [110]] := h
        injection h' with _ h'
        injection h')]
      rfl
    have b2 : B2 [brT c, [42], [110], [94], numT z] = false := rfl
    have b3 : B3 [brT c, [42], [110], [94], numT z] = true := rfl
    rw [e]
    unfold rdW
    rw [if_neg (by rw [b]; exact Bool.false_ne_true), if_neg (by rw [b2]; exact Bool.false_ne_true), if_pos b3]
    show some (2, brkT (brT c), natI (numT z)) = _
    rw [brkT_num, natI_num]
    rfl
  | w + 3, h => exact absurd h (by omega)
theorem readT_bad {t : Tm} (h : t.w < 3) (n : ¬ TmOk t) : readT (tmT t) = none := by
  unfold readT
  rw [rdT_tm h]
  split
  · rename_i w c z e
    by_cases hz : t.w = 0
    · rw [if_pos hz] at e
      cases e
      exact if_neg fun hb => n ((tmB_iff h).mp hb)
    · rw [if_neg hz] at e
      split at e
      · cases e
      · cases e
        exact if_neg fun hb => n ((tmB_iff h).mp hb)
  · rfl
/-- which term of a list is the first that can't stand -/
def BadAt (ts : List Tm) : Option Nat → Prop
  | none => ts.length ≤ 12 ∧ ∀ t ∈ ts, TmOk t
  | some i => ∃ t, ts[i]? = some t ∧ (12 ≤ i ∨ ¬ TmOk t) ∧ ∀ k u, k < i → ts[k]? = some u → k < 12 ∧ TmOk u
theorem tmB_bad {t : Tm} (h : t.w < 3) (n : ¬ TmOk t) : tmB (kn t.w) (some t.c) (some t.z) = false := by
  cases e : tmB (kn t.w) (some t.c) (some t.z) with
  | false => rfl
  | true => exact absurd ((tmB_iff h).mp e) n
/-- what check_rule is asked: a rule, or the first thing in it that can't stand -/
def NonL (H : Hp) (x : V) : Prop := x = .non ∨ (∃ m, x = .int m) ∨ (∃ c, x = .bl c) ∨ (∃ s, x = .str s) ∨ (∃ a xs, x = .ref a ∧ H a = some (.tup xs)) ∨ (∃ a kvs, x = .ref a ∧ H a = some (.dK kvs))
theorem NonL.ex {H H' : Hp} {x : V} (h : NonL H x) (e : Ex H H') : NonL H' x := by
  rcases h with h | h | h | h | ⟨a, xs, h, g⟩ | ⟨a, xs, h, g⟩
  · exact .inl h
  · exact .inr (.inl h)
  · exact .inr (.inr (.inl h))
  · exact .inr (.inr (.inr (.inl h)))
  · exact .inr (.inr (.inr (.inr (.inl ⟨a, xs, h, e _ _ g⟩))))
  · exact .inr (.inr (.inr (.inr (.inr ⟨a, xs, h, e _ _ g⟩))))
def BadL (K : PySem.W.Frag) (H : Hp) (xs : List V) (i : Nat) : Prop := i < xs.length ∧ xs.length ≤ 5000 ∧ (∀ (k : Nat) v, k < i → xs[k]? = some v → k < 12 ∧ JT K H v true) ∧ (12 ≤ i ∨ ∃ v, xs[i]? = some v ∧ JT K H v false)
def BadV (K : PySem.W.Frag) (H : Hp) (x : V) (i : Nat) : Prop := (i = 0 ∧ (NonL H x ∨ ∃ r, x = .ref r ∧ H r = some (.lst []))) ∨ (∃ r xs, x = .ref r ∧ H r = some (.lst xs) ∧ BadL K H xs i)
theorem jt_same {K : PySem.W.Frag} {H : Hp} {x : V} {b c : Bool} (h : JT K H x b) (e : b = c) : JT K H x c := e ▸ h
theorem bad_list {K : PySem.W.Frag} {H : Hp} {r : Addr} {ts : List Tm} {i : Nat} (R : Rul H r ts) (h : BadAt ts (some i)) (hn : ∀ t ∈ ts, t.w < 3) (hl : ts.length ≤ 5000) : BadV K H (.ref r) i := by
  obtain ⟨as, g, la, f⟩ := R
  obtain ⟨t, ht, hb, prev⟩ := h
  have hi := (List.getElem?_eq_some_iff.mp ht).1
  have at' : ∀ {k : Nat} {u : Tm}, ts[k]? = some u → ∃ b, (as.map V.ref)[k]? = some (.ref b) ∧ JT K H (.ref b) (tmB (kn u.w) (some u.c) (some u.z)) := fun {k u} hk => by
    have hk' := (List.getElem?_eq_some_iff.mp hk).1
    have hb : as[k]? = some (as[k]'(by omega)) := List.getElem?_eq_getElem _
    exact ⟨_, by rw [List.getElem?_map, hb]; rfl, jt_tm (st_of (f k _ u hb hk))⟩
  refine .inr ⟨r, _, rfl, g, by rw [List.length_map]; omega, by rw [List.length_map]; omega, fun k v hk hv => ?_, ?_⟩
  · have hk' : k < ts.length := by omega
    have hu : ts[k]? = some (ts[k]'hk') := List.getElem?_eq_getElem _
    obtain ⟨b, e1, j⟩ := at' hu
    rw [e1] at hv
    cases hv
    have p := prev k _ hk hu
    exact ⟨p.1, jt_same j ((tmB_iff (hn _ (List.getElem_mem _))).mpr p.2)⟩
  · rcases hb with hb | hb
    · exact .inl hb
    · obtain ⟨b, e1, j⟩ := at' ht
      exact .inr ⟨_, e1, jt_same j (tmB_bad (hn _ (List.mem_of_getElem? ht)) hb)⟩
theorem ruleN_len {ts : List Tm} (h : ∀ t ∈ ts, TmN t) (l : ts.length ≤ 100) : (ruleT ts).length ≤ 15000 ∧ ((ts.map fun t => S (tmT t)).map (·.length)).sum + (ts.map fun t => S (tmT t)).length * (S [32, 43, 32]).length ≤ 16777216 := by
  have e := joinL_len [32, 43, 32] (ts.map tmT)
  have e2 : ((ts.map tmT).map (·.length)).sum ≤ ts.length * 140 := by
    clear e l
    induction ts with
    | nil => exact Nat.le_refl _
    | cons x xs ih =>
      have a := tm_len (h x (List.mem_cons_self ..))
      have b := ih fun z m => h z (List.mem_cons_of_mem _ m)
      rw [List.map_cons, List.map_cons, List.sum_cons, List.length_cons, Nat.succ_mul]
      omega
  have e5 : ((ts.map fun t => S (tmT t)).map (·.length)).sum = ((ts.map tmT).map (·.length)).sum := by
    rw [List.map_map, List.map_map]
    congr 1
  rw [List.length_map] at e
  have e4 : ([32, 43, 32] : List Nat).length = 3 := rfl
  rw [e4] at e
  constructor
  · unfold ruleT
    omega
  · rw [e5, List.length_map, S_len, e4]
    omega
theorem bad_text {ts : List Tm} {i : Nat} (h : BadAt ts (some i)) (hn : ∀ t ∈ ts, TmN t) (hl : ts.length ≤ 100) : badRule (ruleT ts) i := by
  obtain ⟨t, ht, hb, prev⟩ := h
  have ne : ts ≠ [] := fun z => by rw [z] at ht; cases ht
  have at' : ∀ {k : Nat} {q : List Nat}, (prts [32, 43, 32] (ruleT ts))[k]? = some q → ∃ u, ts[k]? = some u ∧ q = tmT u := fun {k q} e => by
    rw [prts_rule ne, List.getElem?_map] at e
    cases g : ts[k]? with
    | none =>
      rw [g] at e
      cases e
    | some u =>
      rw [g] at e
      cases e
      exact ⟨u, rfl, rfl⟩
  refine ⟨by have := (ruleN_len hn hl).1; omega, asc_rule ts, fun p hp w hw => ?_, tmT t, by rw [prts_rule ne, List.getElem?_map, ht]; rfl, ?_, fun k q hk e => ?_⟩
  · rw [prts_rule ne] at hp
    obtain ⟨u, hu, rfl⟩ := List.mem_map.mp hp
    have := prts_len (by decide) (by decide) hw
    have := tm_len (hn u hu)
    omega
  · rcases hb with hb | hb
    · exact .inl hb
    · exact .inr (readT_bad (hn t (List.mem_of_getElem? ht)).w2 hb)
  · obtain ⟨u, hu, rfl⟩ := at' e
    have p := prev k u hk hu
    exact ⟨p.1, by rw [readT_tm p.2]; exact fun z => by cases z⟩
section
variable {K : PySem.W.Frag} {σ : L2.St} {H : Hp} {te ta tb : TE} {ts us : List Tm}
theorem er_cat (h : EvR ta σ H ts) (h' : EvR tb σ H us) (l : ts.length + us.length ≤ 1000) : EvR (tOp rCat ta tb) σ H (ts ++ us) := fun H1 e Q q =>
  h H1 e _ fun r H2 hr e2 R => h' H2 (e.trans e2) _ fun s H3 hs e3 R3 => by
    obtain ⟨as, g, la, f⟩ := R.ex e3
    obtain ⟨bs, g', lb, f'⟩ := R3
    refine ⟨r, s, as.map .ref, bs.map .ref, rfl, rfl, g, g', sz_of (by rw [List.length_map, List.length_map]; omega), fun p hp => q p _ (fresh_back (e2.trans e3) hp) ((e2.trans e3).trans (Ex.new hp)) ⟨as ++ bs, by rw [upd_same, List.map_append], by rw [List.length_append, List.length_append, la, lb], fun i b t x y => ?_⟩⟩
    refine (Ex.new hp) _ _ ?_
    by_cases c : i < as.length
    · rw [List.getElem?_append_left c] at x
      rw [List.getElem?_append_left (by omega)] at y
      exact f i b t x y
    · rw [List.getElem?_append_right (by omega)] at x y
      rw [la] at x
      exact f' _ b t x y
theorem er_catV {r s : Addr} (h : Ev ta σ H (.ref r)) (h' : Ev tb σ H (.ref s)) (R : Rul H r ts) (R' : Rul H s us) (l : ts.length + us.length ≤ 1000) : EvR (tOp rCat ta tb) σ H (ts ++ us) := fun H1 e Q q =>
  h H1 e _ fun H2 e2 => h' H2 (e.trans e2) _ fun H3 e3 => by
    obtain ⟨as, g, la, f⟩ := R.ex ((e.trans e2).trans e3)
    obtain ⟨bs, g', lb, f'⟩ := R'.ex ((e.trans e2).trans e3)
    refine ⟨r, s, as.map .ref, bs.map .ref, rfl, rfl, g, g', sz_of (by rw [List.length_map, List.length_map]; omega), fun p hp => q p _ (fresh_back (e2.trans e3) hp) ((e2.trans e3).trans (Ex.new hp)) ⟨as ++ bs, by rw [upd_same, List.map_append], by rw [List.length_append, List.length_append, la, lb], fun i b t x y => ?_⟩⟩
    refine (Ex.new hp) _ _ ?_
    by_cases c : i < as.length
    · rw [List.getElem?_append_left c] at x
      rw [List.getElem?_append_left (by omega)] at y
      exact f i b t x y
    · rw [List.getElem?_append_right (by omega)] at x y
      rw [la] at x
      exact f' _ b t x y
theorem er_catVR {r : Addr} (h : Ev ta σ H (.ref r)) (R : Rul H r ts) (h' : EvR tb σ H us) (l : ts.length + us.length ≤ 1000) : EvR (tOp rCat ta tb) σ H (ts ++ us) := fun H1 e Q q =>
  h H1 e _ fun H2 e2 => h' H2 (e.trans e2) _ fun s H3 hs e3 R3 => by
    obtain ⟨as, g, la, f⟩ := R.ex ((e.trans e2).trans e3)
    obtain ⟨bs, g', lb, f'⟩ := R3
    refine ⟨r, s, as.map .ref, bs.map .ref, rfl, rfl, g, g', sz_of (by rw [List.length_map, List.length_map]; omega), fun p hp => q p _ (fresh_back (e2.trans e3) hp) ((e2.trans e3).trans (Ex.new hp)) ⟨as ++ bs, by rw [upd_same, List.map_append], by rw [List.length_append, List.length_append, la, lb], fun i b t x y => ?_⟩⟩
    refine (Ex.new hp) _ _ ?_
    by_cases c : i < as.length
    · rw [List.getElem?_append_left c] at x
      rw [List.getElem?_append_left (by omega)] at y
      exact f i b t x y
    · rw [List.getElem?_append_right (by omega)] at x y
      rw [la] at x
      exact f' _ b t x y
theorem er_catRV {s : Addr} (h : EvR ta σ H ts) (h' : Ev tb σ H (.ref s)) (R' : Rul H s us) (l : ts.length + us.length ≤ 1000) : EvR (tOp rCat ta tb) σ H (ts ++ us) := fun H1 e Q q =>
  h H1 e _ fun r H2 hr e2 R => h' H2 (e.trans e2) _ fun H3 e3 => by
    obtain ⟨as, g, la, f⟩ := R.ex e3
    obtain ⟨bs, g', lb, f'⟩ := R'.ex ((e.trans e2).trans e3)
    refine ⟨r, s, as.map .ref, bs.map .ref, rfl, rfl, g, g', sz_of (by rw [List.length_map, List.length_map]; omega), fun p hp => q p _ (fresh_back (e2.trans e3) hp) ((e2.trans e3).trans (Ex.new hp)) ⟨as ++ bs, by rw [upd_same, List.map_append], by rw [List.length_append, List.length_append, la, lb], fun i b t x y => ?_⟩⟩
    refine (Ex.new hp) _ _ ?_
    by_cases c : i < as.length
    · rw [List.getElem?_append_left c] at x
      rw [List.getElem?_append_left (by omega)] at y
      exact f i b t x y
    · rw [List.getElem?_append_right (by omega)] at x y
      rw [la] at x
      exact f' _ b t x y
theorem er_take {r : Addr} {k : Nat} {tl th : TO} (h : Ev te σ H (.ref r)) (h1 : EvO tl σ H none) (h2 : EvO th σ H (some (k : Int))) (R : Rul H r ts) : EvR (tSl (rSlL K) te tl th) σ H (ts.take k) := fun H1 e Q q => by
  obtain ⟨as, g, la, f⟩ := R
  exact el_sl h h1 h2 (sq_of g) H1 e Q fun p H2 hp e2 g2 => q p H2 hp e2 ⟨as.take k, by rw [g2, cut_take, List.map_take], by rw [List.length_take, List.length_take, la], fun i b t x y => by
    have hi : i < k := by
      have := (List.getElem?_eq_some_iff.mp x).1
      rw [List.length_take] at this
      omega
    rw [List.getElem?_take_of_lt hi] at x y
    exact (e.trans e2) _ _ (f i b t x y)⟩
theorem er_drop {r : Addr} {k : Nat} {tl th : TO} (h : Ev te σ H (.ref r)) (h1 : EvO tl σ H (some (k : Int))) (h2 : EvO th σ H none) (R : Rul H r ts) : EvR (tSl (rSlL K) te tl th) σ H (ts.drop k) := fun H1 e Q q => by
  obtain ⟨as, g, la, f⟩ := R
  exact el_sl h h1 h2 (sq_of g) H1 e Q fun p H2 hp e2 g2 => q p H2 hp e2 ⟨as.drop k, by rw [g2, cut_drop, List.map_drop], by rw [List.length_drop, List.length_drop, la], fun i b t x y => by
    rw [List.getElem?_drop] at x y
    exact (e.trans e2) _ _ (f (k + i) b t x y)⟩
theorem er_var1 {u : Addr} {x : Tm} (h : Ev te σ H (.ref u)) (g : H u = some (.tup (tv x))) : EvR (tLst (tCons te tNil)) σ H [x] := fun H1 e Q q => h H1 e _ fun H2 e2 => ⟨sz_of (by show 1 ≤ 100000; decide), fun p hp => q p _ (fresh_back e2 hp) (e2.trans (Ex.new hp)) ⟨[u], upd_same, rfl, fun i b t x y => by
  match i, x, y with
  | 0, x, y =>
    cases x
    cases y
    exact ((e.trans e2).trans (Ex.new hp)) _ _ g
  | i + 1, x, y => cases x⟩⟩
theorem er_var2 {u v : Addr} {x y : Tm} (h : Ev ta σ H (.ref u)) (h' : Ev tb σ H (.ref v)) (g : H u = some (.tup (tv x))) (g' : H v = some (.tup (tv y))) : EvR (tLst (tCons ta (tCons tb tNil))) σ H [x, y] := fun H1 e Q q => h H1 e _ fun H2 e2 => h' H2 (e.trans e2) _ fun H3 e3 => ⟨sz_of (by show 2 ≤ 100000; decide), fun p hp => q p _ (fresh_back (e2.trans e3) hp) ((e2.trans e3).trans (Ex.new hp)) ⟨[u, v], upd_same, rfl, fun i b t x y => by
  have ee := ((e.trans e2).trans e3).trans (Ex.new (o := .lst [.ref u, .ref v]) hp)
  match i, x, y with
  | 0, x, y =>
    cases x
    cases y
    exact ee _ _ g
  | 1, x, y =>
    cases x
    cases y
    exact ee _ _ g'
  | i + 2, x, y => cases x⟩⟩
theorem ev_callRV {sp : Sp} {E : XK} {x z : V} (h1 : Ev ta σ H x) (h : EvR tb σ H ts) (hs : ∀ r H1, Ex H H1 → Rul H1 r ts → SpV sp [x, .ref r] H1 z) : Ev (tCall sp [] E (tCons ta (tCons tb tNil))) σ H z := fun H1 e Q q =>
  h1 H1 e _ fun H2 e2 => h H2 (e.trans e2) _ fun r H3 _ e3 R => hs r H3 ((e.trans e2).trans e3) R H3 (Ex.refl H3) Q (fun H4 e4 => q H4 ((e2.trans e3).trans e4)) E
end

theorem cut_to (l : List Nat) (k : Nat) : cutS (S l) none (some (k : Int)) = S (l.take k) := by
  unfold cutS
  rw [S_len, HT.sIx_nat, HT.sIx_none]
  refine TL.ext_tl ?_
  show (l.drop 0).take (min k l.length - 0) = l.take k
  rw [List.drop_zero, Nat.sub_zero]
  by_cases h : k ≤ l.length
  · rw [Nat.min_eq_left h]
  · rw [Nat.min_eq_right (by omega), List.take_of_length_le (Nat.le_refl _), List.take_of_length_le (by omega)]
def tenS : List Nat := [48, 49, 50, 51, 52, 53, 54, 55, 56, 57]
theorem ten_mem (c : Nat) : (!decide (c ∈ tenS)) = !dg c := by
  congr 1
  unfold dg tenS
  rw [← Bool.decide_and]
  refine decide_eq_decide.mpr ⟨fun h => ?_, fun h => ?_⟩
  · simp only [List.mem_cons, List.not_mem_nil, or_false] at h
    omega
  · simp only [List.mem_cons, List.not_mem_nil, or_false]
    omega
theorem odd_signs (l : List Nat) : (((l.filter fun c => !dg c).map fun c => [c]) = []) ↔ l.all dg = true := by
  rw [List.map_eq_nil_iff, List.filter_eq_nil_iff, List.all_eq_true]
  refine ⟨fun h c hc => ?_, fun h c hc => ?_⟩
  · have := h c hc
    cases e : dg c with
    | true => rfl
    | false =>
      rw [e] at this
      exact absurd rfl this
  · rw [h c hc]
    decide
theorem odd_dec (l : List Nat) : (!decide (((l.filter fun c => !dg c).map fun c => [c]) = [])) = !l.all dg := by
  congr 1
  cases hd : l.all dg with
  | true => exact decide_eq_true ((odd_signs l).mpr hd)
  | false =>
    refine decide_eq_false fun z => ?_
    rw [(odd_signs l).mp z] at hd
    cases hd
theorem natT_nd {l : List Nat} (h : l.all dg = false) : natT l = none := by
  unfold natT
  refine if_neg fun z => ?_
  rw [z.1] at h
  cases h
theorem natT_zz {r : List Nat} (h : r ≠ []) : natT (48 :: r) = none := by
  unfold natT
  refine if_neg fun z => ?_
  have := z.2.2 rfl
  injection this with _ x
  exact h x
theorem natT_dd {c : Nat} {r : List Nat} (hd : (c :: r).all dg = true) (h : c = 48 → r = []) : natT (c :: r) = some (NumText.digitsVal (c :: r)) := by
  unfold natT
  refine if_pos ⟨hd, (fun z => by cases z), fun z => ?_⟩
  injection z with z1
  rw [h z1, z1]
theorem V_dec (a b : List Nat) : decide (V.str (S a) = V.str (S b)) = decide (a = b) := decide_eq_decide.mpr ⟨fun z => S_inj (V.str.inj z), fun z => by rw [z]⟩
theorem signs_ok {l : List Nat} (h : (l.all fun c => decide (c < 1114112)) = true) (f : Nat → Bool) : strsOk ((l.filter f).map fun c => [c]) := fun x hx => by
  obtain ⟨c, hc, rfl⟩ := List.mem_map.mp hx
  have := List.all_eq_true.mp h c (List.mem_filter.mp hc).1
  simp only [List.all_cons, List.all_nil, Bool.and_true]
  exact this
def okS (l : List Nat) : Prop := (l.all fun c => decide (c < 1114112)) = true
theorem okS_drop {l : List Nat} (h : okS l) (k : Nat) : okS (l.drop k) := List.all_eq_true.mpr fun c hc => List.all_eq_true.mp h c (List.mem_of_mem_drop hc)
theorem okS_take {l : List Nat} (h : okS l) (k : Nat) : okS (l.take k) := List.all_eq_true.mpr fun c hc => List.all_eq_true.mp h c (List.mem_of_mem_take hc)

theorem given_mapN {α : Type} (xs : List α) (d : α) (g : α → V) : given xs.length (fun _ => true) (fun j => g (xs.getD j d)) = xs.map g := by
  have := given_filterN xs d (fun _ => true) g
  rw [this, List.filter_eq_self.mpr (fun _ _ => rfl)]
theorem first_none : ∀ ps : List (List Nat), (∃ ns : List Int, ps.map wholeT = ns.map some) ∨ ∃ (i : Nat) (p : List Nat), ps[i]? = some p ∧ wholeT p = none ∧ ∀ (k : Nat) (q : List Nat), k < i → ps[k]? = some q → wholeT q ≠ none
  | [] => .inl ⟨[], rfl⟩
  | p :: ps => by
    cases hp : wholeT p with
    | none => exact .inr ⟨0, p, rfl, hp, fun k q hk => absurd hk (Nat.not_lt_zero k)⟩
    | some n =>
      rcases first_none ps with ⟨ns, h⟩ | ⟨i, q, h1, h2, h3⟩
      · exact .inl ⟨n :: ns, by rw [List.map_cons, List.map_cons, hp, h]⟩
      · refine .inr ⟨i + 1, q, h1, h2, fun k r hk hr => ?_⟩
        cases k with
        | zero =>
          cases hr
          rw [hp]
          exact fun z => by cases z
        | succ k => exact h3 k r (by omega) hr
def isDue (l : List Nat) (o : Nat ⊕ List Int) : Prop := match o with
  | .inl i => ∃ p, (prts [44, 32] l)[i]? = some p ∧ wholeT p = none ∧ ∀ (k : Nat) (q : List Nat), k < i → (prts [44, 32] l)[k]? = some q → wholeT q ≠ none
  | .inr ns => (prts [44, 32] l).map wholeT = ns.map some
def DueV (K : PySem.W.Frag) (H : Hp) (o : Nat ⊕ List Int) (v : V) : Prop := match o with
  | .inl i => v = .int (i : Int)
  | .inr ns => ∃ p, v = .ref p ∧ SqL K H p (vi ns)
theorem DueV.ex {K : PySem.W.Frag} {H H' : Hp} {o : Nat ⊕ List Int} {v : V} (h : DueV K H o v) (e : Ex H H') : DueV K H' o v := by
  cases o with
  | inl i => exact h
  | inr ns =>
    obtain ⟨p, h1, h2⟩ := h
    exact ⟨p, h1, ex_l e h2⟩
theorem optI_flat (o : Option Int) : flatV (optI o) = true := by cases o <;> rfl
theorem due_flat (ps : List (List Nat)) : (ps.map fun p => optI (wholeT p)).all flatV = true := by
  rw [List.all_eq_true]
  intro v hv
  obtain ⟨p, _, rfl⟩ := List.mem_map.mp hv
  exact optI_flat _
theorem due_vi {ps : List (List Nat)} {ns : List Int} (h : ps.map wholeT = ns.map some) : ps.map (fun p => optI (wholeT p)) = vi ns := by
  have e : ps.map (fun p => optI (wholeT p)) = (ps.map wholeT).map optI := by rw [List.map_map]; rfl
  rw [e, h, List.map_map]
  rfl
theorem in_none (ns : List Int) : inV .non (vi ns) = false := by
  unfold inV
  rw [List.any_eq_false]
  intro y hy
  obtain ⟨n, _, rfl⟩ := List.mem_map.mp hy
  exact fun z => by cases z
theorem in_some {ps : List (List Nat)} {i : Nat} {p : List Nat} (h : ps[i]? = some p) (hw : wholeT p = none) : inV .non (ps.map fun p => optI (wholeT p)) = true := by
  unfold inV
  rw [List.any_eq_true]
  exact ⟨_, List.mem_map.mpr ⟨p, List.mem_of_getElem? h, rfl⟩, by rw [hw]; rfl⟩
/-! lengths -/
def sz (ps : List (List Nat)) : Nat := (ps.map (·.length)).sum
theorem sz_cons (p : List Nat) (ps : List (List Nat)) : sz (p :: ps) = p.length + sz ps := by
  unfold sz
  rw [List.map_cons, List.sum_cons]
theorem sz_app (ps qs : List (List Nat)) : sz (ps ++ qs) = sz ps + sz qs := by
  unfold sz
  rw [List.map_append, List.sum_append]
theorem join_sz : ∀ {ps : List (List Nat)}, ps ≠ [] → (TL.joinL [44, 32] ps).length + 2 = sz ps + 2 * ps.length
  | [], h => absurd rfl h
  | [p], _ => by
    show p.length + 2 = p.length + 0 + 2
    omega
  | p :: q :: r, _ => by
    have ih := join_sz (ps := q :: r) (by simp)
    have e : TL.joinL [44, 32] (p :: q :: r) = p ++ ([44, 32] ++ TL.joinL [44, 32] (q :: r)) := rfl
    rw [e, List.length_append, List.length_append, sz_cons]
    have e2 : ([44, 32] : List Nat).length = 2 := rfl
    have e3 : (p :: q :: r).length = (q :: r).length + 1 := rfl
    omega
theorem sz_set : ∀ {ps : List (List Nat)} {i : Nat} {q : List Nat} (b : List Nat), ps[i]? = some q → sz (ps.set i b) + q.length = sz ps + b.length
  | p :: ps, 0, q, b, h => by
    cases h
    show sz (b :: ps) + p.length = _
    rw [sz_cons, sz_cons]
    omega
  | p :: ps, i + 1, q, b, h => by
    show sz (p :: ps.set i b) + q.length = _
    have := sz_set (ps := ps) (i := i) b h
    rw [sz_cons, sz_cons]
    omega
theorem sz_erase (ps : List (List Nat)) (i : Nat) : sz (ps.eraseIdx i) ≤ sz ps := by
  induction ps generalizing i with
  | nil => exact Nat.le_refl _
  | cons p ps ih =>
    cases i with
    | zero =>
      show sz ps ≤ _
      rw [sz_cons]
      omega
    | succ i =>
      show sz (p :: ps.eraseIdx i) ≤ _
      have := ih i
      rw [sz_cons, sz_cons]
      omega
theorem sz_ins (ps : List (List Nat)) (i : Nat) (b : List Nat) : sz (ps.take i ++ [b] ++ ps.drop i) = sz ps + b.length := by
  have e : sz (ps.take i) + sz (ps.drop i) = sz ps := by rw [← sz_app, List.take_append_drop]
  rw [sz_app, sz_app, sz_cons]
  have : sz ([] : List (List Nat)) = 0 := rfl
  omega
theorem join_le (ps : List (List Nat)) : (TL.joinL [44, 32] ps).length ≤ sz ps + 2 * ps.length := by
  have := joinL_len [44, 32] ps
  have e2 : ([44, 32] : List Nat).length = 2 := rfl
  rw [e2] at this
  unfold sz
  omega
theorem okS_join {ps : List (List Nat)} (h : ∀ p ∈ ps, okS p) : okS (TL.joinL [44, 32] ps) := List.all_eq_true.mpr fun c hc => by
  rcases joinL_mem _ hc with h1 | ⟨q, hq, h1⟩
  · simp only [List.mem_cons, List.not_mem_nil, or_false] at h1
    exact decide_eq_true (by omega)
  · exact List.all_eq_true.mp (h q hq) c h1
theorem okS_app {l m : List Nat} (h : okS l) (h' : okS m) : okS (l ++ m) := List.all_eq_true.mpr fun c hc => by
  rcases List.mem_append.mp hc with hc | hc
  · exact List.all_eq_true.mp h c hc
  · exact List.all_eq_true.mp h' c hc
theorem okS_prts {l : List Nat} (h : okS l) : ∀ p ∈ prts [44, 32] l, okS p := fun p hp => List.all_eq_true.mpr fun c hc => List.all_eq_true.mp h c (prts_mem (by decide) (by decide) hp hc)
theorem parts_sz (l : List Nat) : l.length + 2 = sz (prts [44, 32] l) + 2 * (prts [44, 32] l).length := by
  have := join_sz (prts_ne [44, 32] l)
  rw [prts_join (by decide) (by decide)] at this
  exact this
def spS : List Nat := [48, 49, 50, 51, 52, 53, 54, 55, 56, 57, 45, 45, 44, 32, 46, 110, 10]
theorem spS_ok {c : Nat} (h : c ∈ spS) : okS [c] := by
  have : c < 1114112 := by
    unfold spS at h
    simp only [List.mem_cons, List.not_mem_nil, or_false] at h
    omega
  unfold okS
  simp only [List.all_cons, List.all_nil, Bool.and_true]
  exact decide_eq_true this
theorem ev_joinV {K : PySem.W.Frag} {σ : L2.St} {H : Hp} {ta tb : TE} {ps : List (List Nat)} {sep : List Nat} {p : Addr} (h : Ev ta σ H (.str (S sep))) (h' : Ev tb σ H (.ref p)) (g : H p = some (.lst (vs ps))) (hz : (ps.map (·.length)).sum + ps.length * sep.length ≤ 16777216) : Ev (tM1 (rJoin K) ta tb) σ H (.str (S (TL.joinL sep ps))) := by
  refine ev_is (ev_join (ys := ps.map S) h h' (sq_of (by rw [g, List.map_map]; rfl)) ?_) (congrArg V.str (join_S sep ps))
  rw [List.map_map, List.length_map, S_len]
  have e : ps.map ((·.length) ∘ S) = ps.map (·.length) := List.map_congr_left fun l _ => S_len l
  rw [e]
  exact hz
theorem swap_sz {ps : List (List Nat)} {f s : Nat} {P R : List Nat} (hf : ps[f]? = some P) (hs : ps[s]? = some R) : sz ((ps.set f R).set s P) = sz ps := by
  have a := sz_set R hf
  have g : (ps.set f R)[s]? = some R := by
    rw [List.getElem?_set]
    by_cases h : f = s
    · have := (List.getElem?_eq_some_iff.mp hs).1
      rw [if_pos h, if_pos (by omega)]
    · rw [if_neg h]
      exact hs
  have b := sz_set P g
  omega
theorem vs_len (ps : List (List Nat)) : (vs ps).length = ps.length := by
  unfold vs
  rw [List.length_map]
theorem vs_get {ps : List (List Nat)} {i : Nat} {p : List Nat} (h : ps[i]? = some p) : (vs ps)[i]? = some (.str (S p)) := by
  unfold vs
  rw [List.getElem?_map, h]
  rfl
theorem vs_set (ps : List (List Nat)) (i : Nat) (p : List Nat) : (vs ps).set i (.str (S p)) = vs (ps.set i p) := by
  unfold vs
  rw [List.map_set]
theorem vs_erase (ps : List (List Nat)) (i : Nat) : (vs ps).eraseIdx i = vs (ps.eraseIdx i) := by
  unfold vs
  induction ps generalizing i with
  | nil => rfl
  | cons p ps ih =>
    cases i with
    | zero => rfl
    | succ i => exact congrArg (V.str (S p) :: ·) (ih i)
theorem vs_ins (ps : List (List Nat)) (i : Nat) (p : List Nat) : (vs ps).take i ++ [.str (S p)] ++ (vs ps).drop i = vs (ps.take i ++ [p] ++ ps.drop i) := by
  unfold vs
  rw [List.map_append, List.map_append, List.map_take, List.map_drop]
  rfl
theorem first_uniq {l : List (List Nat)} {f : Nat → List Nat → Prop} {i j : Nat} {p r : List Nat} (h1 : l[i]? = some p) (h2 : f i p) (h3 : ∀ k q, k < i → l[k]? = some q → ¬ f k q) (g1 : l[j]? = some r) (g2 : f j r) (g3 : ∀ k q, k < j → l[k]? = some q → ¬ f k q) : i = j := by
  rcases Nat.lt_trichotomy i j with h | h | h
  · exact absurd h2 (g3 i p h h1)
  · exact h
  · exact absurd g2 (h3 j r h g1)

theorem num_lt10 (n : Nat) : n < 10 ^ (TL.numL n).length := by
  induction n using Nat.strongRecOn with
  | _ n ih =>
    by_cases h1 : n < 10
    · rw [TL.numL_lt h1]
      show n < 10 ^ 1
      omega
    · rw [TL.numL_step (by omega), List.length_append]
      show n < 10 ^ ((TL.numL (n / 10)).length + 1)
      have := ih (n / 10) (by omega)
      rw [Nat.pow_succ]
      omega
theorem numT_ok {z : Int} (h : (numT z).length ≤ 60) : NumOk z := by
  have hl : (TL.numL z.natAbs).length ≤ 60 := by
    unfold numT at h
    split at h
    · rw [List.length_cons] at h
      omega
    · exact h
  have h1 := num_lt10 z.natAbs
  have h2 : (10 : Nat) ^ (TL.numL z.natAbs).length ≤ 10 ^ 60 := Nat.pow_le_pow_right (by decide) hl
  have e : (10 : Nat) ^ 60 = 1000000000000000000000000000000000000000000000000000000000000 := by decide
  unfold NumOk
  rw [p60]
  omega
theorem due_parts : ∀ {ps : List (List Nat)} {ns : List Int}, ps.map wholeT = ns.map some → ps = ns.map numT
  | [], [], _ => rfl
  | [], n :: ns, h => by cases h
  | p :: ps, [], h => by cases h
  | p :: ps, n :: ns, h => by
    rw [List.map_cons, List.map_cons] at h
    injection h with h1 h2
    rw [List.map_cons, wholeT_inv h1, due_parts h2]
theorem due_row {l : List Nat} {ns : List Int} (d : (prts [44, 32] l).map wholeT = ns.map some) : rowT ns = l := by
  unfold rowT
  rw [← due_parts d]
  exact prts_join (by decide) (by decide)
theorem due_ok {l : List Nat} {ns : List Int} (d : (prts [44, 32] l).map wholeT = ns.map some) (hl : l.length ≤ 5000) (hp : ∀ p ∈ prts [44, 32] l, p.length ≤ 60) : RtOk ns ∧ wide 1900 ns ∧ ns.length ≤ 4000 := by
  have e := due_parts d
  have z := parts_sz l
  have le : (prts [44, 32] l).length = ns.length := by rw [e, List.length_map]
  have ok : ∀ n ∈ ns, NumOk n := fun n hn => numT_ok (hp _ (by rw [e]; exact List.mem_map.mpr ⟨n, hn, rfl⟩))
  have l4 : ns.length ≤ 4000 := by omega
  refine ⟨⟨fun h => ?_, l4, fun n hn => num_ok (ok n hn)⟩, num_wide ok, l4⟩
  rw [h] at le
  exact prts_ne [44, 32] l (List.length_eq_zero_iff.mp le)
theorem map_some_in {ns ms : List Int} (h : ns.map some = ms.map some) : ns = ms := map_some_inj h
theorem ev_due {K : PySem.W.Frag} {σ : L2.St} {H : Hp} {tl : TE} {p : Addr} {ns : List Int} {j : Nat} {vs : List Nat} (h : Ev tl σ H (.ref p)) (hS : SqL K H p (vi ns)) (ok : RtOk ns) (hw : ∀ x, wipe ((wipe σ vs).set j (some x)) vs = wipe σ vs) (hj : ∀ x, ((wipe σ vs).set j (some x))[j]? = some (some x)) :
    Ev (tM1 (rJoin K) (tC (.str ", ")) (tLc (iList K tl) (gName j) tYes (tCB (fun xs H Q => ∃ i, xs = [V.int i] ∧ i.natAbs.log2 < 1920 ∧ Q (.str (toString i)) H) (tCons (tVar j) tNil)) vs)) σ H (.str (S (rowT ns))) := by
  refine ev_is (ev_joinN (ys := ns.map fun n => S (numT n)) ev_c (el_is (el_lcL (fun _ => true) (fun i => V.str (S (numT (ns.getD i 0)))) h hS (by rw [List.length_map]; have := ok.2.1; omega) hw (fun _ _ _ _ _ => et_yes) ?_) ?_) ok.fits) (congrArg V.str (join_row ns))
  · intro i x H2 e2 hx _
    obtain ⟨m, rfl, hm, hg⟩ := vi_inv hx
    rw [hg]
    exact ev_is (ev_strI (ev_var (hj _)) (log_num (ok.2.2 m (List.mem_of_getElem? hm)).1)) (congrArg V.str (str_num m))
  · rw [List.length_map, List.map_map]
    exact given_map ns fun n => V.str (S (numT n))

theorem ev_callVP {σ : L2.St} {H : Hp} {ta tb : TE} {sp : Sp} {E : XK} {x v : V} {P : V → Hp → Prop} (h1 : Ev ta σ H x) (h : EvP tb σ H P) (hs : ∀ y H1, Ex H H1 → P y H1 → SpV sp [x, y] H1 v) : Ev (tCall sp [] E (tCons ta (tCons tb tNil))) σ H v := fun H1 e Q q =>
  h1 H1 e _ fun H2 e2 => h H2 (e.trans e2) _ fun y H3 e3 py => hs y H3 ((e.trans e2).trans e3) py H3 (Ex.refl H3) Q (fun H4 e4 => q H4 ((e2.trans e3).trans e4)) E
theorem max_is : ∀ {ns : List Int}, ns ≠ [] → ∃ m, m ∈ ns ∧ ∀ y ∈ ns, y ≤ m
  | [], h => absurd rfl h
  | [x], _ => ⟨x, List.mem_singleton.mpr rfl, fun y hy => by rw [List.mem_singleton.mp hy]; exact Int.le_refl _⟩
  | x :: z :: r, _ => by
    obtain ⟨m, h1, h2⟩ := max_is (ns := z :: r) (by simp)
    by_cases h : m ≤ x
    · refine ⟨x, List.mem_cons_self .., fun y hy => ?_⟩
      rcases List.mem_cons.mp hy with e | e
      · rw [e]
        exact Int.le_refl _
      · exact Int.le_trans (h2 y e) h
    · refine ⟨m, List.mem_cons_of_mem _ h1, fun y hy => ?_⟩
      rcases List.mem_cons.mp hy with e | e
      · rw [e]
        omega
      · exact h2 y e
def ValOk (l : List Nat) (n : Nat) : Prop := (∃ ms : List Int, isDue l (.inr ms)) ∧ l.length ≤ n ∧ okS l ∧ ∀ p ∈ prts [44, 32] l, p.length ≤ 60
theorem ValOk.pos {l : List Nat} {n : Nat} (h : ValOk l n) : 0 < l.length := by
  obtain ⟨⟨ms, d⟩, _⟩ := h
  refine Nat.pos_of_ne_zero fun z => ?_
  have e : l = [] := List.length_eq_zero_iff.mp z
  subst e
  have d' : (prts [44, 32] []).map wholeT = ms.map some := d
  rw [show prts [44, 32] [] = [[]] from rfl] at d'
  cases ms with
  | nil => cases d'
  | cons m ms =>
    injection d' with d1
    cases d1
theorem ValOk.mono {l : List Nat} {n m : Nat} (h : ValOk l n) (k : n ≤ m) : ValOk l m := ⟨h.1, Nat.le_trans h.2.1 k, h.2.2⟩
theorem row_due {ms : List Int} (h : ms ≠ []) : isDue (rowT ms) (.inr ms) := by
  show (prts [44, 32] (rowT ms)).map wholeT = ms.map some
  rw [prts_row h, List.map_map, show (wholeT ∘ numT) = some from funext wholeT_num]
theorem first_val {ms : List Int} (h0 : 0 < ms.length) (h8 : ms.length ≤ 8) (hz : ∀ z ∈ ms, -1000000 ≤ z ∧ z ≤ 1000000) : ValOk (rowT ms) 100 := by
  have ne : ms ≠ [] := List.length_pos_iff.mp h0
  have e7 : (10 : Int) ^ 7 = 10000000 := by decide
  have hl : ∀ p ∈ ms.map numT, p.length ≤ 8 := fun p hp => by
    obtain ⟨z, hm, rfl⟩ := List.mem_map.mp hp
    have := hz z hm
    exact numT_len (k := 7) (by decide) (by rw [e7]; omega) (by rw [e7]; omega)
  have pr := prts_row ne
  refine ⟨⟨ms, row_due ne⟩, ?_, ?_, ?_⟩
  · have a := join_le (ms.map numT)
    have b : ∀ qs : List (List Nat), (∀ p ∈ qs, p.length ≤ 8) → sz qs ≤ qs.length * 8 := fun qs => by
      induction qs with
      | nil => exact fun _ => Nat.le_refl _
      | cons x xs ih =>
        intro h
        have := ih fun p hp => h p (List.mem_cons_of_mem _ hp)
        have := h x (List.mem_cons_self ..)
        rw [sz_cons, List.length_cons, Nat.succ_mul]
        omega
    have c := b _ hl
    rw [List.length_map] at a c
    show (TL.joinL [44, 32] (ms.map numT)).length ≤ 100
    omega
  · refine List.all_eq_true.mpr fun c hc => ?_
    have := rowT_all hc
    exact decide_eq_true (by omega)
  · rw [pr]
    intro p hp
    have := hl p hp
    omega

def lawB (l : List Nat) : Option Int := if l.take 1 = [40] ∧ l.drop (l.length - 1) = [41] then (match wholeT ((l.drop 1).take (l.length - 2)) with | some n => if n < 0 then some n else none | none => none) else natI l
theorem natI_40 {r : List Nat} : natI (40 :: r) = none := by
  unfold natI natT
  rw [if_neg fun z => by
    have := z.1
    rw [List.all_cons] at this
    cases this]
theorem whole_45 (r : List Nat) : (match wholeT (45 :: r) with | some n => if n < 0 then some n else none | none => none) = wholeT (45 :: r) := by
  cases h : wholeT (45 :: r) with
  | none => rfl
  | some n =>
    unfold wholeT at h
    rw [if_pos (show (45 :: r).take 1 = [45] from rfl)] at h
    cases hn : natT ((45 :: r).drop 1) with
    | none =>
      rw [hn] at h
      cases h
    | some m =>
      rw [hn] at h
      replace h : (if m = 0 then none else some (-(m : Int))) = some n := h
      split at h
      · cases h
      · injection h with h
        show (if n < 0 then some n else none) = some n
        rw [if_pos (by omega)]
theorem whole_not {l : List Nat} (h : l.take 1 ≠ [45]) : (match wholeT l with | some n => if n < 0 then some n else none | none => (none : Option Int)) = none := by
  unfold wholeT
  rw [if_neg h]
  cases natT l with
  | none => rfl
  | some m =>
    show (if (m : Int) < 0 then some (m : Int) else none) = none
    rw [if_neg (by omega)]
theorem lawB_eq (l : List Nat) : lawB l = brkT l := by
  unfold lawB brkT
  by_cases h : l.take 1 = [40] ∧ l.drop (l.length - 1) = [41]
  · rw [if_pos h]
    obtain ⟨h1, h2⟩ := h
    obtain ⟨r, rfl⟩ : ∃ r, l = 40 :: r := by
      cases l with
      | nil => cases h1
      | cons c r =>
        injection h1 with h3
        exact ⟨r, by rw [h3]⟩
    by_cases h3 : (40 :: r).take 2 = [40, 45]
    · rw [if_pos ⟨h3, h2⟩]
      obtain ⟨s, rfl⟩ : ∃ s, r = 45 :: s := by
        cases r with
        | nil => cases h3
        | cons c s =>
          injection h3 with _ h4
          injection h4 with h5
          exact ⟨s, by rw [h5]⟩
      cases s with
      | nil => cases h2
      | cons x s =>
        have e : ((40 :: 45 :: x :: s).drop 1).take ((40 :: 45 :: x :: s).length - 2) = 45 :: (x :: s).take s.length := rfl
        rw [e]
        exact whole_45 _
    · rw [if_neg fun z => h3 z.1]
      have e : (match natT (40 :: r) with | some n => some (n : Int) | none => none) = (none : Option Int) := natI_40 (r := r)
      rw [e]
      refine whole_not fun z => h3 ?_
      show 40 :: r.take 1 = [40, 45]
      have z' : (r.take (r.length - 1)).take 1 = [45] := z
      rw [List.take_take] at z'
      by_cases c : 1 ≤ r.length - 1
      · rw [Nat.min_eq_left c] at z'
        rw [z']
      · rw [show min 1 (r.length - 1) = 0 by omega] at z'
        cases z'
  · rw [if_neg h, if_neg fun z => h ⟨?_, z.2⟩]
    · rfl
    · have := congrArg (List.take 1) z.1
      rw [List.take_take] at this
      exact this

theorem cut_last (l : List Nat) : cutS (S l) (some (-1)) none = S (l.drop (l.length - 1)) := by
  unfold cutS
  rw [S_len, HT.sIx_none]
  refine TL.ext_tl ?_
  have e : HT.sIx l.length 0 (some (-1)) = l.length - 1 := by
    unfold HT.sIx
    simp
    omega
  rw [e]
  show (l.drop (l.length - 1)).take (l.length - (l.length - 1)) = l.drop (l.length - 1)
  exact List.take_of_length_le (by rw [List.length_drop]; omega)

def TV (v : V) (H : Hp) (o : Option Tm) : Prop := match o with | none => v = .non | some t => ∃ p, v = .ref p ∧ H p = some (.tup (tv t))
def finT (o : Option (Nat × Option Int × Option Int)) : Option Tm := match o with | some (w, some c, some z) => if tmB (kn w) (some c) (some z) = true then some ⟨w, c, z⟩ else none | _ => none
theorem readT_fin (l : List Nat) : readT l = finT (rdW (prts [32] l)) := rfl
theorem finT_c {w : Nat} {c z : Option Int} (h : inZ c (-1000000) 1000000 = false) : finT (some (w, c, z)) = none := by
  cases c with
  | none => rfl
  | some c =>
    cases z with
    | none => rfl
    | some z =>
      show (if tmB (kn w) (some c) (some z) = true then some (⟨w, c, z⟩ : Tm) else none) = none
      rw [if_neg (by unfold tmB; rw [h]; simp)]
theorem tmB0 (c z : Option Int) : tmB (kn 0) c z = (inZ c (-1000000) 1000000 && inZ z (-40) 40) := by
  unfold tmB
  rw [show decide (kn 0 = "power") = true by decide, show decide (kn 0 = "ring") = false by decide, show decide (kn 0 = "places") = false by decide]
  simp
theorem tmB1 (c z : Option Int) : tmB (kn 1) c z = (inZ c (-1000000) 1000000 && inZ z 1 300) := by
  unfold tmB
  rw [show decide (kn 1 = "power") = false by decide, show decide (kn 1 = "ring") = true by decide, show decide (kn 1 = "places") = false by decide]
  simp
theorem tmB2 (c z : Option Int) : tmB (kn 2) c z = (inZ c (-1000000) 1000000 && inZ z 1 6) := by
  unfold tmB
  rw [show decide (kn 2 = "power") = false by decide, show decide (kn 2 = "ring") = false by decide, show decide (kn 2 = "places") = true by decide]
  simp
def mkT (w : Nat) (c z : Option Int) (b : Bool) : Option Tm := match c, z, b with | some c, some z, true => some ⟨w, c, z⟩ | _, _, _ => none
theorem finT_mk {w : Nat} {c z : Option Int} {b : Bool} (hc : inZ c (-1000000) 1000000 = true) (h : tmB (kn w) c z = (inZ c (-1000000) 1000000 && b)) : finT (some (w, c, z)) = mkT w c z b := by
  rw [hc, Bool.true_and] at h
  cases c with
  | none => cases hc
  | some c =>
    cases z with
    | none => rfl
    | some z =>
      show (if tmB (kn w) (some c) (some z) = true then some (⟨w, c, z⟩ : Tm) else none) = _
      rw [h]
      cases b with
      | true => exact if_pos rfl
      | false => exact if_neg (by decide)
theorem inZ_some {o : Option Int} {lo hi : Int} (h : inZ o lo hi = true) : ∃ m, o = some m := by
  cases o with
  | none => cases h
  | some m => exact ⟨m, rfl⟩
theorem mk_none (w : Nat) (c z : Option Int) : mkT w c z false = none := by
  cases c <;> cases z <;> rfl
theorem rd_less {ws : List (List Nat)} (h : ws.length < 4) : finT (rdW ws) = none := by
  have b1 : B1 ws = false := by
    unfold B1
    rw [decide_eq_false (by omega)]
    rfl
  have b2 : B2 ws = false := by
    unfold B2
    rw [decide_eq_false (by omega)]
    rfl
  have b3 : B3 ws = false := by
    unfold B3
    rw [decide_eq_false (by omega)]
    rfl
  unfold rdW
  rw [b1, b2, b3]
  rfl
theorem rd_more {ws : List (List Nat)} (h : 5 < ws.length) : finT (rdW ws) = none := by
  have b1 : B1 ws = false := by
    unfold B1
    rw [decide_eq_false (by omega)]
    rfl
  have b2 : B2 ws = false := by
    unfold B2
    rw [decide_eq_false (by omega)]
    rfl
  have b3 : B3 ws = false := by
    unfold B3
    rw [decide_eq_false (by omega)]
    rfl
  unfold rdW
  rw [b1, b2, b3]
  rfl
theorem rd_star {w0 w1 : List Nat} {r : List (List Nat)} (h : w1 ≠ [42]) : finT (rdW (w0 :: w1 :: r)) = none := by
  have b1 : B1 (w0 :: w1 :: r) = false := by
    unfold B1
    rw [show decide ((w0 :: w1 :: r).getD 1 [] = [42]) = false from decide_eq_false h]
    simp
  have b2 : B2 (w0 :: w1 :: r) = false := by
    unfold B2
    rw [show decide (((w0 :: w1 :: r).drop 1).take 2 = [[42], [114, 105, 110, 103]]) = false from decide_eq_false fun z => by
      have z' : w1 :: r.take 1 = [[42], [114, 105, 110, 103]] := z
      injection z' with z1
      exact h z1]
    simp
  have b3 : B3 (w0 :: w1 :: r) = false := by
    unfold B3
    rw [show decide (((w0 :: w1 :: r).drop 1).take 3 = [[42], [110], [94]]) = false from decide_eq_false fun z => by
      have z' : w1 :: r.take 2 = [[42], [110], [94]] := z
      injection z' with z1
      exact h z1]
    simp
  unfold rdW
  rw [b1, b2, b3]
  rfl
theorem rd_out {ws : List (List Nat)} (h : inZ (brkT (ws.getD 0 [])) (-1000000) 1000000 = false) : finT (rdW ws) = none := by
  unfold rdW
  split
  · exact finT_c h
  · split
    · exact finT_c h
    · split
      · exact finT_c h
      · rfl
theorem rd_four {w0 w2 w3 : List Nat} (hc : inZ (brkT w0) (-1000000) 1000000 = true) : finT (rdW [w0, [42], w2, w3]) = if w2 = [114, 105, 110, 103] then mkT 1 (brkT w0) (natI w3) (inZ (natI w3) 1 300) else none := by
  have b1 : B1 [w0, [42], w2, w3] = false := rfl
  have b3 : B3 [w0, [42], w2, w3] = false := rfl
  have b2 : B2 [w0, [42], w2, w3] = decide (w2 = [114, 105, 110, 103]) := by
    show (true && decide ([[42], w2] = [[42], [114, 105, 110, 103]])) = _
    rw [Bool.true_and]
    exact decide_eq_decide.mpr ⟨fun z => by injection z with _ z; injection z, fun z => by rw [z]⟩
  unfold rdW
  rw [b1, b2, b3]
  by_cases h : w2 = [114, 105, 110, 103]
  · rw [if_pos h, decide_eq_true h]
    exact finT_mk hc (tmB1 _ _)
  · rw [if_neg h, decide_eq_false h]
    rfl
theorem rd_hat {w0 w2 w3 w4 : List Nat} (h : w3 ≠ [94]) : finT (rdW [w0, [42], w2, w3, w4]) = none := by
  have b1 : B1 [w0, [42], w2, w3, w4] = false := by
    show (true && (true && decide ([w3, w4] = [[94], [110]]))) = false
    rw [decide_eq_false fun z => by injection z with z1; exact h z1]
    rfl
  have b2 : B2 [w0, [42], w2, w3, w4] = false := rfl
  have b3 : B3 [w0, [42], w2, w3, w4] = false := by
    show (true && decide ([[42], w2, w3] = [[42], [110], [94]])) = false
    rw [decide_eq_false fun z => by injection z with _ z; injection z with _ z; injection z with z1; exact h z1]
    rfl
  unfold rdW
  rw [b1, b2, b3]
  rfl
theorem brk_n : brkT [110] = none := by decide
theorem nat_n : natI [110] = none := by decide
theorem rd_five {w0 w2 w4 : List Nat} (hc : inZ (brkT w0) (-1000000) 1000000 = true) : finT (rdW [w0, [42], w2, [94], w4]) = if w2 = [110] then mkT 2 (brkT w0) (natI w4) (inZ (natI w4) 1 6) else if w4 = [110] then mkT 0 (brkT w0) (brkT w2) (inZ (brkT w2) (-40) 40) else none := by
  have b1 : B1 [w0, [42], w2, [94], w4] = decide (w4 = [110]) := by
    show (true && (true && decide ([[94], w4] = [[94], [110]]))) = _
    rw [Bool.true_and, Bool.true_and]
    exact decide_eq_decide.mpr ⟨fun z => by injection z with _ z; injection z, fun z => by rw [z]⟩
  have b2 : B2 [w0, [42], w2, [94], w4] = false := rfl
  have b3 : B3 [w0, [42], w2, [94], w4] = decide (w2 = [110]) := by
    show (true && decide ([[42], w2, [94]] = [[42], [110], [94]])) = _
    rw [Bool.true_and]
    exact decide_eq_decide.mpr ⟨fun z => by injection z with _ z; injection z, fun z => by rw [z]⟩
  unfold rdW
  rw [b1, b2, b3]
  by_cases h2 : w2 = [110]
  · rw [if_pos h2]
    subst h2
    by_cases h4 : w4 = [110]
    · subst h4
      show finT (some (0, brkT w0, brkT [110])) = mkT 2 (brkT w0) (natI [110]) _
      rw [brk_n, nat_n]
      cases brkT w0 <;> rfl
    · rw [decide_eq_false h4]
      exact finT_mk hc (tmB2 _ _)
  · rw [if_neg h2]
    by_cases h4 : w4 = [110]
    · rw [if_pos h4, decide_eq_true h4]
      exact finT_mk hc (tmB0 _ _)
    · rw [if_neg h4, decide_eq_false h4, decide_eq_false h2]
      rfl

def oD (o : Option Tm) : PyData := match o with | none => .none | some t => tdat t
theorem oD_eqv (o : Option Tm) : PyData.eqv (oD o) .none = o.isNone := by
  cases o with
  | none => rfl
  | some t =>
    show PyData.eqv (.tuple [.str (kn t.w), .int t.c, .int t.z]) .none = false
    rw [PyData.eqv]
    all_goals simp
theorem tv_dp {K : PySem.W.Frag} {H : Hp} {v : V} {o : Option Tm} (h : TV v H o) : Dp K H v (oD o) := by
  cases o with
  | none =>
    have : v = .non := h
    subst this
    exact .non
  | some t =>
    obtain ⟨p, rfl, g⟩ := h
    exact .tup (st_of g) (.cons (.str _) (.cons (.int _) (.cons (.int _) .nil)))
theorem tvs_dp {K : PySem.W.Frag} {H : Hp} : ∀ {xs : List V} {os : List (Option Tm)}, xs.length = os.length → (∀ (i : Nat) (v : V) (o : Option Tm), xs[i]? = some v → os[i]? = some o → TV v H o) → DpAll K H xs (os.map oD)
  | [], [], _, _ => .nil
  | [], _ :: _, l, _ => by cases l
  | _ :: _, [], l, _ => by cases l
  | x :: xs, o :: os, l, h => .cons (tv_dp (h 0 x o rfl rfl)) (tvs_dp (by simpa using l) fun i v u a b => h (i + 1) v u a b)
def isDueR (l : List Nat) (o : Nat ⊕ List Tm) : Prop := match o with
  | .inl i => ∃ p, (prts [32, 43, 32] l)[i]? = some p ∧ (12 ≤ i ∨ readT p = none) ∧ ∀ (k : Nat) (q : List Nat), k < i → (prts [32, 43, 32] l)[k]? = some q → k < 12 ∧ readT q ≠ none
  | .inr ts => (prts [32, 43, 32] l).map readT = ts.map some ∧ ts.length ≤ 12
theorem first_bad (m : Nat) : ∀ ps : List (List Nat), (∃ ts : List Tm, ps.map readT = ts.map some ∧ ts.length ≤ m) ∨ ∃ (i : Nat) (p : List Nat), ps[i]? = some p ∧ (m ≤ i ∨ readT p = none) ∧ ∀ (k : Nat) (q : List Nat), k < i → ps[k]? = some q → k < m ∧ readT q ≠ none := by
  intro ps
  induction ps generalizing m with
  | nil => exact .inl ⟨[], rfl, Nat.zero_le _⟩
  | cons p ps ih =>
    cases m with
    | zero => exact .inr ⟨0, p, rfl, .inl (Nat.le_refl _), fun k q hk => absurd hk (Nat.not_lt_zero k)⟩
    | succ m =>
      cases hp : readT p with
      | none => exact .inr ⟨0, p, rfl, .inr hp, fun k q hk => absurd hk (Nat.not_lt_zero k)⟩
      | some t =>
        rcases ih m with ⟨ts, h, l⟩ | ⟨i, q, h1, h2, h3⟩
        · exact .inl ⟨t :: ts, by rw [List.map_cons, List.map_cons, hp, h], by rw [List.length_cons]; omega⟩
        · refine .inr ⟨i + 1, q, h1, h2.imp (fun z => by omega) id, fun k r hk hr => ?_⟩
          cases k with
          | zero =>
            cases hr
            rw [hp]
            exact ⟨by omega, fun z => by cases z⟩
          | succ k =>
            have := h3 k r (by omega) hr
            exact ⟨by omega, this.2⟩

theorem oD_can : ∀ os : List (Option Tm), PyData.canLayAll0 (os.map oD) = true ∧ PyData.depthAll (os.map oD) ≤ 1
  | [] => ⟨rfl, Nat.zero_le _⟩
  | o :: os => by
    obtain ⟨a, b⟩ := oD_can os
    have s1 : (oD o).canLay0 = true := by
      cases o with
      | none => rfl
      | some t => simp [oD, tdat, PyData.canLay0, PyData.canLayAll0, kn_ok]
    have s3 : (oD o).depth ≤ 1 := by
      cases o with
      | none => exact Nat.zero_le _
      | some t => simp [oD, tdat, PyData.depth, PyData.depthAll]
    constructor
    · rw [List.map_cons, PyData.canLayAll0, s1, a]
      rfl
    · rw [List.map_cons, PyData.depthAll]
      omega
theorem oD_shaped (os : List (Option Tm)) : SeqAt.shaped (.list (os.map oD)) = true := by
  obtain ⟨a, b⟩ := oD_can os
  unfold SeqAt.shaped
  rw [PyData.canLay0, PyData.depth, a, decide_eq_true (by omega)]
  rfl
theorem none_shaped : SeqAt.shaped .none = true := rfl
theorem any_none (os : List (Option Tm)) : ((os.map oD).any fun z => PyData.eqv z .none) = os.any (·.isNone) := by
  rw [List.any_map]
  congr 1
  funext o
  exact oD_eqv o
theorem TV.keep {v : V} {H : Hp} {D : Addr} {o : Option Tm} {ys zs : List V} (g : H D = some (.lst ys)) (h : TV v H o) : TV v (upd H D (.lst zs)) o := by
  cases o with
  | none => exact h
  | some t =>
    obtain ⟨p, h1, h2⟩ := h
    exact ⟨p, h1, by rw [upd_ne (tup_lst h2 g)]; exact h2⟩
theorem TV.ex {v : V} {H H' : Hp} {o : Option Tm} (h : TV v H o) (e : Ex H H') : TV v H' o := by
  cases o with
  | none => exact h
  | some t =>
    obtain ⟨p, h1, h2⟩ := h
    exact ⟨p, h1, e _ _ h2⟩

theorem any12_true {ps : List (List Nat)} {i : Nat} {p : List Nat} (h : i < 12) (hi : ps[i]? = some p) (hr : readT p = none) : ((ps.map readT).take 12).any (·.isNone) = true := by
  rw [List.any_eq_true]
  refine ⟨none, ?_, rfl⟩
  have : ((ps.map readT).take 12)[i]? = some none := by
    rw [List.getElem?_take_of_lt h, List.getElem?_map, hi, ← hr]
    rfl
  exact List.mem_of_getElem? this
theorem any12_false {ps : List (List Nat)} (h : ∀ (k : Nat) (q : List Nat), k < 12 → ps[k]? = some q → readT q ≠ none) : ((ps.map readT).take 12).any (·.isNone) = false := by
  rw [List.any_eq_false]
  intro o ho
  obtain ⟨k, hk⟩ := List.getElem?_of_mem ho
  have lk := (List.getElem?_eq_some_iff.mp hk).1
  rw [List.length_take] at lk
  rw [List.getElem?_take_of_lt (by omega), List.getElem?_map] at hk
  cases g : ps[k]? with
  | none =>
    rw [g] at hk
    cases hk
  | some q =>
    rw [g] at hk
    injection hk with hk
    have := h k q (by omega) g
    rw [← hk]
    cases e : readT q with
    | none => exact absurd e this
    | some t => exact Bool.false_ne_true
def DueR (H : Hp) (o : Nat ⊕ List Tm) (v : V) : Prop := match o with
  | .inl i => v = .int (i : Int)
  | .inr ts => ∃ p, v = .ref p ∧ Rul H p ts
theorem DueR.ex {H H' : Hp} {o : Nat ⊕ List Tm} {v : V} (h : DueR H o v) (e : Ex H H') : DueR H' o v := by
  cases o with
  | inl i => exact h
  | inr ts =>
    obtain ⟨p, h1, h2⟩ := h
    exact ⟨p, h1, h2.ex e⟩
theorem refs_of {H : Hp} : ∀ {xs : List V} {ts : List Tm}, xs.length = ts.length → (∀ (i : Nat) (v : V) (t : Tm), xs[i]? = some v → ts[i]? = some t → TV v H (some t)) → ∃ as : List Addr, xs = as.map V.ref ∧ as.length = ts.length ∧ ∀ (i : Nat) (b : Addr) (t : Tm), as[i]? = some b → ts[i]? = some t → H b = some (.tup (tv t))
  | [], [], _, _ => ⟨[], rfl, rfl, fun _ _ _ h => by cases h⟩
  | [], _ :: _, l, _ => by cases l
  | _ :: _, [], l, _ => by cases l
  | x :: xs, t :: ts, l, h => by
    obtain ⟨p, rfl, g⟩ := h 0 x t rfl rfl
    obtain ⟨as, rfl, la, f⟩ := refs_of (xs := xs) (ts := ts) (by simpa using l) fun i v u a b => h (i + 1) v u a b
    refine ⟨p :: as, rfl, by rw [List.length_cons, List.length_cons, la], fun i b u x y => ?_⟩
    cases i with
    | zero =>
      cases x
      cases y
      exact g
    | succ i => exact f i b u x y

theorem natI_inv {l : List Nat} {n : Int} (h : natI l = some n) : numT n = l ∧ 0 ≤ n := by
  unfold natI at h
  cases hn : natT l with
  | none =>
    rw [hn] at h
    cases h
  | some m =>
    rw [hn] at h
    replace h : some (m : Int) = some n := h
    injection h with h
    subst h
    refine ⟨?_, by omega⟩
    unfold numT
    rw [if_neg (by omega), show ((m : Int)).natAbs = m by omega]
    exact natT_inv hn
theorem brk_inv {l : List Nat} {n : Int} (h : brkT l = some n) : brT n = l := by
  unfold brkT at h
  by_cases hc : l.take 2 = [40, 45] ∧ l.drop (l.length - 1) = [41]
  · rw [if_pos hc] at h
    have hi := wholeT_inv h
    have l2 : 2 ≤ l.length := by
      have := congrArg List.length hc.1
      rw [List.length_take] at this
      have : min 2 l.length = 2 := this
      omega
    have t1 : l.take 1 = [40] := by
      have := congrArg (List.take 1) hc.1
      rw [List.take_take] at this
      exact this
    have e : l = [40] ++ ((l.drop 1).take (l.length - 2) ++ [41]) := by
      conv => lhs; rw [← List.take_append_drop 1 l, t1, ← List.take_append_drop (l.length - 2) (l.drop 1)]
      rw [List.drop_drop, show 1 + (l.length - 2) = l.length - 1 by omega, hc.2]
    have neg : n < 0 := by
      refine Classical.byContradiction fun z => ?_
      unfold numT at hi
      rw [if_neg z] at hi
      have d1 : (l.drop 1).take 1 = [45] := by
        have := congrArg (List.drop 1) hc.1
        rw [List.drop_take] at this
        exact this
      have d2 : ((l.drop 1).take (l.length - 2)).take 1 = [45] := by
        rw [List.take_take]
        by_cases k : 1 ≤ l.length - 2
        · rw [Nat.min_eq_left k]
          exact d1
        · exfalso
          have l2' : l.length = 2 := by omega
          rw [l2'] at hc
          have a := congrArg (List.drop 1) hc.1
          rw [List.drop_take, hc.2] at a
          cases a
      rw [← hi] at d2
      have dn := dg_num n.natAbs
      cases g : TL.numL n.natAbs with
      | nil => exact TL.numL_ne _ g
      | cons x r =>
        rw [g] at d2 dn
        injection d2 with d3
        rw [List.all_cons, d3] at dn
        cases dn
    unfold brT
    rw [if_pos neg, hi]
    exact e.symm
  · rw [if_neg hc] at h
    obtain ⟨a, b⟩ := natI_inv (l := l) (n := n) h
    unfold brT
    rw [if_neg (by omega)]
    exact a

theorem finT_some {w : Nat} {c z : Option Int} {t : Tm} (h : finT (some (w, c, z)) = some t) : ∃ x y, c = some x ∧ z = some y ∧ t = ⟨w, x, y⟩ := by
  cases c with
  | none => cases h
  | some x =>
    cases z with
    | none => cases h
    | some y =>
      replace h : (if tmB (kn w) (some x) (some y) = true then some (⟨w, x, y⟩ : Tm) else none) = some t := h
      split at h
      · injection h with h
        exact ⟨x, y, rfl, rfl, h.symm⟩
      · cases h
theorem five {ws : List (List Nat)} (h : ws.length = 5) : ∃ a b c d e, ws = [a, b, c, d, e] := by
  match ws, h with
  | [a, b, c, d, e], _ => exact ⟨a, b, c, d, e, rfl⟩
theorem four {ws : List (List Nat)} (h : ws.length = 4) : ∃ a b c d, ws = [a, b, c, d] := by
  match ws, h with
  | [a, b, c, d], _ => exact ⟨a, b, c, d, rfl⟩
theorem rdW_inv {ws : List (List Nat)} {t : Tm} (h : finT (rdW ws) = some t) : tmW t = ws := by
  unfold rdW at h
  split at h
  · rename_i b
    unfold B1 at b
    simp only [Bool.and_eq_true, decide_eq_true_eq] at b
    obtain ⟨b1, b2, b3⟩ := b
    obtain ⟨w0, w1, w2, w3, w4, rfl⟩ := five b1
    obtain ⟨x, y, hx, hy, rfl⟩ := finT_some h
    have e1 : w1 = [42] := b2
    have e2 : [w3, w4] = [[94], [110]] := b3
    injection e2 with e3 e4
    injection e4 with e5
    subst e1 e3 e5
    show [brT x, [42], brT y, [94], [110]] = _
    rw [brk_inv hx, brk_inv hy]
    rfl
  · split at h
    · rename_i b
      unfold B2 at b
      simp only [Bool.and_eq_true, decide_eq_true_eq] at b
      obtain ⟨b1, b2⟩ := b
      obtain ⟨w0, w1, w2, w3, rfl⟩ := four b1
      obtain ⟨x, y, hx, hy, rfl⟩ := finT_some h
      have e2 : [w1, w2] = [[42], [114, 105, 110, 103]] := b2
      injection e2 with e3 e4
      injection e4 with e5
      subst e3 e5
      show [brT x, [42], [114, 105, 110, 103], numT y] = _
      rw [brk_inv hx, (natI_inv hy).1]
      rfl
    · split at h
      · rename_i b
        unfold B3 at b
        simp only [Bool.and_eq_true, decide_eq_true_eq] at b
        obtain ⟨b1, b2⟩ := b
        obtain ⟨w0, w1, w2, w3, w4, rfl⟩ := five b1
        obtain ⟨x, y, hx, hy, rfl⟩ := finT_some h
        have e2 : [w1, w2, w3] = [[42], [110], [94]] := b2
        injection e2 with e3 e4
        injection e4 with e5 e6
        injection e6 with e7
        subst e3 e5 e7
        show [brT x, [42], [110], [94], numT y] = _
        rw [brk_inv hx, (natI_inv hy).1]
        rfl
      · cases h
theorem readT_inv {l : List Nat} {t : Tm} (h : readT l = some t) : tmT t = l := by
  rw [readT_fin] at h
  rw [tmT_words, rdW_inv h]
  exact prts_join (by decide) (by decide)
theorem dueR_parts : ∀ {ps : List (List Nat)} {ts : List Tm}, ps.map readT = ts.map some → ps = ts.map tmT
  | [], [], _ => rfl
  | [], n :: ns, h => by cases h
  | p :: ps, [], h => by cases h
  | p :: ps, n :: ns, h => by
    rw [List.map_cons, List.map_cons] at h
    injection h with h1 h2
    rw [List.map_cons, readT_inv h1, dueR_parts h2]
theorem dueR_rule {l : List Nat} {ts : List Tm} (d : (prts [32, 43, 32] l).map readT = ts.map some) : ruleT ts = l := by
  unfold ruleT
  rw [← dueR_parts d]
  exact prts_join (by decide) (by decide)

theorem dueR_ok {l : List Nat} {ts : List Tm} (d : (prts [32, 43, 32] l).map readT = ts.map some) : 0 < ts.length ∧ ∀ t ∈ ts, TmOk t := by
  refine ⟨?_, fun t ht => ?_⟩
  · refine Nat.pos_of_ne_zero fun z => ?_
    have e := congrArg List.length d
    rw [List.length_map, List.length_map, z] at e
    exact prts_ne [32, 43, 32] l (List.length_eq_zero_iff.mp e)
  · have : some t ∈ (prts [32, 43, 32] l).map readT := by
      rw [d]
      exact List.mem_map.mpr ⟨t, ht, rfl⟩
    obtain ⟨p, _, hp⟩ := List.mem_map.mp this
    exact (readT_ok hp).1
theorem join_sz3 : ∀ {ps : List (List Nat)}, ps ≠ [] → (TL.joinL [32, 43, 32] ps).length + 3 = sz ps + 3 * ps.length
  | [], h => absurd rfl h
  | [p], _ => by
    show p.length + 3 = p.length + 0 + 3
    omega
  | p :: q :: r, _ => by
    have ih := join_sz3 (ps := q :: r) (by simp)
    have e : TL.joinL [32, 43, 32] (p :: q :: r) = p ++ ([32, 43, 32] ++ TL.joinL [32, 43, 32] (q :: r)) := rfl
    rw [e, List.length_append, List.length_append, sz_cons]
    have e2 : ([32, 43, 32] : List Nat).length = 3 := rfl
    have e3 : (p :: q :: r).length = (q :: r).length + 1 := rfl
    omega
theorem join_le3 (ps : List (List Nat)) : (TL.joinL [32, 43, 32] ps).length ≤ sz ps + 3 * ps.length := by
  have := joinL_len [32, 43, 32] ps
  have e2 : ([32, 43, 32] : List Nat).length = 3 := rfl
  rw [e2] at this
  unfold sz
  omega
theorem okS_join3 {ps : List (List Nat)} (h : ∀ p ∈ ps, okS p) : okS (TL.joinL [32, 43, 32] ps) := List.all_eq_true.mpr fun c hc => by
  rcases joinL_mem _ hc with h1 | ⟨q, hq, h1⟩
  · simp only [List.mem_cons, List.not_mem_nil, or_false] at h1
    exact decide_eq_true (by omega)
  · exact List.all_eq_true.mp (h q hq) c h1
theorem okS_prts3 {l : List Nat} (h : okS l) : ∀ p ∈ prts [32, 43, 32] l, okS p := fun p hp => List.all_eq_true.mpr fun c hc => List.all_eq_true.mp h c (prts_mem (by decide) (by decide) hp hc)
theorem parts_sz3 (l : List Nat) : l.length + 3 = sz (prts [32, 43, 32] l) + 3 * (prts [32, 43, 32] l).length := by
  have := join_sz3 (prts_ne [32, 43, 32] l)
  rw [prts_join (by decide) (by decide)] at this
  exact this
def spS3 : List Nat := [48, 49, 50, 51, 52, 53, 54, 55, 56, 57, 45, 40, 41, 32, 42, 43, 94, 110, 114, 105, 103, 10]
theorem spS_ok3 {c : Nat} (h : c ∈ spS3) : okS [c] := by
  have : c < 1114112 := by
    unfold spS3 at h
    simp only [List.mem_cons, List.not_mem_nil, or_false] at h
    omega
  unfold okS
  simp only [List.all_cons, List.all_nil, Bool.and_true]
  exact decide_eq_true this
theorem join_sz1 : ∀ {ps : List (List Nat)}, ps ≠ [] → (TL.joinL [32] ps).length + 1 = sz ps + 1 * ps.length
  | [], h => absurd rfl h
  | [p], _ => by
    show p.length + 1 = p.length + 0 + 1
    omega
  | p :: q :: r, _ => by
    have ih := join_sz1 (ps := q :: r) (by simp)
    have e : TL.joinL [32] (p :: q :: r) = p ++ ([32] ++ TL.joinL [32] (q :: r)) := rfl
    rw [e, List.length_append, List.length_append, sz_cons]
    have e2 : ([32] : List Nat).length = 1 := rfl
    have e3 : (p :: q :: r).length = (q :: r).length + 1 := rfl
    omega
theorem join_le1 (ps : List (List Nat)) : (TL.joinL [32] ps).length ≤ sz ps + 1 * ps.length := by
  have := joinL_len [32] ps
  have e2 : ([32] : List Nat).length = 1 := rfl
  rw [e2] at this
  unfold sz
  omega
theorem okS_join1 {ps : List (List Nat)} (h : ∀ p ∈ ps, okS p) : okS (TL.joinL [32] ps) := List.all_eq_true.mpr fun c hc => by
  rcases joinL_mem _ hc with h1 | ⟨q, hq, h1⟩
  · simp only [List.mem_cons, List.not_mem_nil, or_false] at h1
    exact decide_eq_true (by omega)
  · exact List.all_eq_true.mp (h q hq) c h1
theorem okS_prts1 {l : List Nat} (h : okS l) : ∀ p ∈ prts [32] l, okS p := fun p hp => List.all_eq_true.mpr fun c hc => List.all_eq_true.mp h c (prts_mem (by decide) (by decide) hp hc)
theorem parts_sz1 (l : List Nat) : l.length + 1 = sz (prts [32] l) + 1 * (prts [32] l).length := by
  have := join_sz1 (prts_ne [32] l)
  rw [prts_join (by decide) (by decide)] at this
  exact this

theorem ew_ixH {K : PySem.W.Frag} {σ : L2.St} {H : Hp} {tl ti : TE} {a p : Addr} {d : Nat} {xs : List V} {P P1 : V → Prop} (ho : Ev tl σ (hid a H) (.ref p)) (ne : p ≠ a) (g : H p = some (.lst xs)) (hi : EvW a d ti σ H P) (hP : ∀ v, P v → ∃ (i : Int) (x : V), v = .int i ∧ atI xs i = some x ∧ P1 x) : EvW a d (tOp (rIxL K) tl ti) σ H P1 := fun n H1 b w l Q q =>
  ho H1 (ex_hid b) _ fun H2 e2 => hi n H2 (b.trans (But.ex e2)) (w.ex e2) l _ fun v H3 b3 w3 pv => by
    obtain ⟨i, x, rfl, hx, px⟩ := hP v pv
    exact ⟨p, xs, i, x, rfl, rfl, sq_of (b3 _ _ ne (e2 _ _ (b _ _ ne g))), hx, q x H3 ((But.ex e2).trans b3) w3 px⟩
theorem qw_setW {σ : L2.St} {H : Hp} {ta te ti : TE} {a : Addr} {d1 d2 n : Nat} {D : Ends} {tz : TS} {l : Addr} {xs : List V} {P1 : V → Prop} (hl : H l = some (.lst xs)) (ne : l ≠ a) (h : EvW a d1 te σ H P1) (ho : ∀ H1, But a H H1 → Ev ta σ H1 (.ref l)) (hi : EvW a d2 ti σ H (fun v => ∃ j : Int, v = .int j ∧ 0 ≤ j ∧ j < (xs.length : Int))) (w : Well H a n) (hn : n + (d1 + d2) ≤ 2 ^ 50)
    (k : ∀ v (j : Nat) H1, But a H H1 → H1 l = some (.lst xs) → P1 v → j < xs.length → tz D σ (upd H1 l (.lst (xs.set j v)))) : tSeq (tAsg te (gSub ta ti rSetL)) tz D σ H :=
  h n H (But.refl a H) w (by omega) _ fun v H2 b2 w2 p => ho H2 b2 H2 (Ex.refl H2) _ fun H3 e3 => hi (n + d1) H3 (b2.trans (But.ex e3)) (w2.ex e3) (by omega) _ fun v3 H4 b4 w4 ⟨j, hv, j0, j1⟩ => by
    subst hv
    obtain ⟨m, rfl⟩ : ∃ m : Nat, j = m := ⟨j.toNat, by omega⟩
    have g := ((b2.trans (But.ex e3)).trans b4) _ _ ne hl
    exact ⟨l, xs, (m : Int), m, rfl, rfl, g, ixN_nat (by omega), k v m H4 ((b2.trans (But.ex e3)).trans b4) g p (by omega)⟩
theorem q_asgTxt {K : PySem.W.Frag} {σ : L2.St} {H : Hp} {a : Addr} {tl te : TE} {D : Ends} {tz : TS} {i j : Nat} {vs : List Nat}
    (hl : ∀ Q : VK, (∀ r ts H2, H r = none → But a H H2 → Rul H2 r ts → 0 < ts.length → ts.length ≤ 5 → (∀ t ∈ ts, TmOk t) → Q (.ref r) H2) → tl σ H Q)
    (hw : ∀ x, wipe ((wipe σ vs).set j (some x)) vs = wipe σ vs) (he : ∀ b t H1, TmOk t → H1 b = some (.tup (tv t)) → Ev te ((wipe σ vs).set j (some (.ref b))) H1 (.str (S (tmT t))))
    (k : ∀ ts H1, But a H H1 → 0 < ts.length → ts.length ≤ 5 → (∀ t ∈ ts, TmOk t) → tz D (σ.set i (some (.str (S (ruleT ts))))) H1) :
    tSeq (tAsg (tM1 (rJoin K) (tC (.str (S [32, 43, 32]))) (tLc (iList K tl) (gName j) tYes te vs)) (gName i)) tz D σ H :=
by
  show (∃ a, V.str (S [32, 43, 32]) = V.str a) ∧ _
  refine ⟨⟨_, rfl⟩, ?_⟩
  unfold tLc iList
  refine hl _ fun r ts H2 hr b R h0 h5 ok => ?_
  have x := ((ev_is (ev_joinN (K := K) (ys := ts.map fun t => S (tmT t)) (a := S [32, 43, 32]) ev_c (el_texts (K := K) (tl := fun _ H Q => Q (.ref r) H) R (by omega) (fun H1 e Q q => q H1 (Ex.refl H1)) hw fun b t H3 e3 m g => he b t H3 (ok t m) g) (rule_fits ok (by omega))) (congrArg V.str (join_rule ts))) H2 (Ex.refl H2) (fun v H1 => gName i v σ H1 (tz D)) fun H3 e3 => k ts H3 (b.trans (But.ex e3)) h0 h5 ok).2
  exact x
def ValR (l : List Nat) : Prop := ∃ ts : List Tm, l = ruleT ts ∧ 0 < ts.length ∧ ts.length ≤ 12 ∧ ∀ t ∈ ts, TmOk t
theorem ValR.facts {l : List Nat} (h : ValR l) : 0 < l.length ∧ l.length ≤ 520 ∧ okS l ∧ (∀ p ∈ prts [32, 43, 32] l, p.length ≤ 40) ∧ ∃ ts, isDueR l (.inr ts) := by
  obtain ⟨ts, rfl, h0, h1, ok⟩ := h
  have ne : ts ≠ [] := List.length_pos_iff.mp h0
  have pr := prts_rule ne
  have pz := parts_sz3 (ruleT ts)
  rw [pr, List.length_map] at pz
  have sm : ∀ qs : List (List Nat), (∀ p ∈ qs, p.length ≤ 40) → sz qs ≤ qs.length * 40 := fun qs => by
    induction qs with
    | nil => exact fun _ => Nat.le_refl _
    | cons x xs ih =>
      intro h
      have := ih fun p hp => h p (List.mem_cons_of_mem _ hp)
      have := h x (List.mem_cons_self ..)
      rw [sz_cons, List.length_cons, Nat.succ_mul]
      omega
  have tl : ∀ p ∈ ts.map tmT, p.length ≤ 40 := fun p hp => by
    obtain ⟨t, ht, rfl⟩ := List.mem_map.mp hp
    exact tm_small (ok t ht)
  have s := sm _ tl
  rw [List.length_map] at s
  refine ⟨?_, by omega, ?_, ?_, ts, ?_, h1⟩
  · refine Nat.pos_of_ne_zero fun z => ?_
    have e : ruleT ts = [] := List.length_eq_zero_iff.mp z
    have := pr
    rw [e] at this
    cases ts with
    | nil => exact ne rfl
    | cons t r =>
      rw [show prts [32, 43, 32] [] = [[]] from rfl, List.map_cons] at this
      injection this with h2 _
      have h3 := readT_tm (ok t (List.mem_cons_self ..))
      rw [← h2] at h3
      have e3 : readT [] = none := by decide
      rw [e3] at h3
      cases h3
  · refine List.all_eq_true.mpr fun c hc => ?_
    have := ruleT_all hc
    exact decide_eq_true (by omega)
  · rw [pr]
    exact tl
  · rw [pr, List.map_map]
    exact List.map_congr_left fun t ht => readT_tm (ok t ht)
theorem ValR.of {l : List Nat} {ts : List Tm} (d : isDueR l (.inr ts)) : ValR l := by
  obtain ⟨d1, d2⟩ := d
  obtain ⟨h0, ok⟩ := dueR_ok d1
  exact ⟨ts, (dueR_rule d1).symm, h0, d2, ok⟩

end My
namespace My
open PySem PySem.Spec PyProof.Rows L2 Evl Bk
open SX

def topS (i : Nat) : Stmt := PySem.Challenge.pw_backafter_k56_whole_rule_texts_spoilt_ag.main.body.getD i (.Pass ⟨0, 0, 0, 0⟩)
abbrev s_is_whole : Stmt := topS 8
theorem sc_is_whole : FnScope ["value"] ["value"] (defScope s_is_whole) := ⟨rfl, rfl, rfl, by decide +kernel, rfl, by decide +kernel, by decide +kernel⟩
abbrev s_to_power : Stmt := topS 13
theorem sc_to_power : FnScope ["base", "power", "found", "square", "rest"] ["base", "power"] (defScope s_to_power) := ⟨rfl, rfl, rfl, by decide +kernel, rfl, by decide +kernel, by decide +kernel⟩
abbrev s_parts : Stmt := topS 24
theorem sc_parts : FnScope ["text", "between"] ["text", "between"] (defScope s_parts) := ⟨rfl, rfl, rfl, by decide +kernel, rfl, by decide +kernel, by decide +kernel⟩
abbrev s_law_well : Stmt := topS 30
theorem sc_law_well : FnScope ["script", "k", "cell"] ["script", "k"] (defScope s_law_well) := ⟨rfl, rfl, rfl, by decide +kernel, rfl, by decide +kernel, by decide +kernel⟩
abbrev s_law_pull : Stmt := topS 31
theorem sc_law_pull : FnScope ["well", "many", "found", "mixed"] ["well", "many"] (defScope s_law_pull) := ⟨rfl, rfl, rfl, by decide +kernel, rfl, by decide +kernel, by decide +kernel⟩
abbrev s_law_bracketed : Stmt := topS 35
theorem sc_law_bracketed : FnScope ["number"] ["number"] (defScope s_law_bracketed) := ⟨rfl, rfl, rfl, by decide +kernel, rfl, by decide +kernel, by decide +kernel⟩
abbrev s_law_digits_of : Stmt := topS 37
theorem sc_law_digits_of : FnScope ["part", "sign"] ["part"] (defScope s_law_digits_of) := ⟨rfl, rfl, rfl, by decide +kernel, rfl, by decide +kernel, by decide +kernel⟩
abbrev s_law_within : Stmt := topS 40
theorem sc_law_within : FnScope ["number", "least", "most"] ["number", "least", "most"] (defScope s_law_within) := ⟨rfl, rfl, rfl, by decide +kernel, rfl, by decide +kernel, by decide +kernel⟩
abbrev s_is_from_to : Stmt := topS 9
theorem sc_is_from_to : FnScope ["value", "least", "most"] ["value", "least", "most"] (defScope s_is_from_to) := ⟨rfl, rfl, rfl, by decide +kernel, rfl, by decide +kernel, by decide +kernel⟩
abbrev s_read_natural : Stmt := topS 19
theorem sc_read_natural : FnScope ["text", "number", "start", "piece"] ["text"] (defScope s_read_natural) := ⟨rfl, rfl, rfl, by decide +kernel, rfl, by decide +kernel, by decide +kernel⟩
abbrev s_law_term_text : Stmt := topS 36
theorem sc_law_term_text : FnScope ["term", "kind", "many", "last"] ["term"] (defScope s_law_term_text) := ⟨rfl, rfl, rfl, by decide +kernel, rfl, by decide +kernel, by decide +kernel⟩
abbrev s_law_number_of : Stmt := topS 38
theorem sc_law_number_of : FnScope ["part", "number"] ["part"] (defScope s_law_number_of) := ⟨rfl, rfl, rfl, by decide +kernel, rfl, by decide +kernel, by decide +kernel⟩
abbrev s_is_term : Stmt := topS 10
theorem sc_is_term : FnScope ["value", "kind", "count", "size", "name", "least", "most"] ["value"] (defScope s_is_term) := ⟨rfl, rfl, rfl, by decide +kernel, rfl, by decide +kernel, by decide +kernel⟩
abbrev s_written : Stmt := topS 17
theorem sc_written : FnScope ["number", "pieces", "limit", "piece"] ["number"] (defScope s_written) := ⟨rfl, rfl, rfl, by decide +kernel, rfl, by decide +kernel, by decide +kernel⟩
abbrev s_read_whole : Stmt := topS 18
theorem sc_read_whole : FnScope ["text", "number"] ["text"] (defScope s_read_whole) := ⟨rfl, rfl, rfl, by decide +kernel, rfl, by decide +kernel, by decide +kernel⟩
abbrev s_law_one_of : Stmt := topS 32
theorem sc_law_one_of : FnScope ["well", "some"] ["well", "some"] (defScope s_law_one_of) := ⟨rfl, rfl, rfl, by decide +kernel, rfl, by decide +kernel, by decide +kernel⟩
abbrev s_law_bracketed_of : Stmt := topS 39
theorem sc_law_bracketed_of : FnScope ["part", "number"] ["part"] (defScope s_law_bracketed_of) := ⟨rfl, rfl, rfl, by decide +kernel, rfl, by decide +kernel, by decide +kernel⟩
abbrev s_check_rule : Stmt := topS 11
theorem sc_check_rule : FnScope ["rule", "index", "term"] ["rule"] (defScope s_check_rule) := ⟨rfl, rfl, rfl, by decide +kernel, rfl, by decide +kernel, by decide +kernel⟩
abbrev s_bracketed : Stmt := topS 26
theorem sc_bracketed : FnScope ["number"] ["number"] (defScope s_bracketed) := ⟨rfl, rfl, rfl, by decide +kernel, rfl, by decide +kernel, by decide +kernel⟩
abbrev s_read_bracketed : Stmt := topS 28
theorem sc_read_bracketed : FnScope ["text"] ["text"] (defScope s_read_bracketed) := ⟨rfl, rfl, rfl, by decide +kernel, rfl, by decide +kernel, by decide +kernel⟩
abbrev s_law_term : Stmt := topS 33
theorem sc_law_term : FnScope ["well", "way", "many"] ["well"] (defScope s_law_term) := ⟨rfl, rfl, rfl, by decide +kernel, rfl, by decide +kernel, by decide +kernel⟩
abbrev s_law_term_of : Stmt := topS 41
theorem sc_law_term_of : FnScope ["part", "words", "many", "last"] ["part"] (defScope s_law_term_of) := ⟨rfl, rfl, rfl, by decide +kernel, rfl, by decide +kernel, by decide +kernel⟩
abbrev s_law_spoilt : Stmt := topS 43
theorem sc_law_spoilt : FnScope ["well", "value", "way", "place", "parts", "sign", "first", "second", "kept", "words", "others"] ["well", "value"] (defScope s_law_spoilt) := ⟨rfl, rfl, rfl, by decide +kernel, rfl, by decide +kernel, by decide +kernel⟩
abbrev s_term_text : Stmt := topS 25
theorem sc_term_text : FnScope ["term", "kind", "count", "size"] ["term"] (defScope s_term_text) := ⟨rfl, rfl, rfl, by decide +kernel, rfl, by decide +kernel, by decide +kernel⟩
abbrev s_read_term : Stmt := topS 27
theorem sc_read_term : FnScope ["text", "words", "count"] ["text"] (defScope s_read_term) := ⟨rfl, rfl, rfl, by decide +kernel, rfl, by decide +kernel, by decide +kernel⟩
abbrev s_law_rule : Stmt := topS 34
theorem sc_law_rule : FnScope ["well", "most", "k"] ["well", "most"] (defScope s_law_rule) := ⟨rfl, rfl, rfl, by decide +kernel, rfl, by decide +kernel, by decide +kernel⟩
abbrev s_law_due : Stmt := topS 42
theorem sc_law_due : FnScope ["value", "terms", "part"] ["value"] (defScope s_law_due) := ⟨rfl, rfl, rfl, by decide +kernel, rfl, by decide +kernel, by decide +kernel⟩
abbrev s_rule_text : Stmt := topS 22
theorem sc_rule_text : FnScope ["rule", "term"] ["rule"] (defScope s_rule_text) := ⟨rfl, rfl, rfl, by decide +kernel, rfl, by decide +kernel, by decide +kernel⟩
abbrev s_read_rule : Stmt := topS 23
theorem sc_read_rule : FnScope ["text", "rule", "index", "part", "term"] ["text"] (defScope s_read_rule) := ⟨rfl, rfl, rfl, by decide +kernel, rfl, by decide +kernel, by decide +kernel⟩
abbrev s_law_goes : Stmt := topS 44
theorem sc_law_goes : FnScope ["value", "due", "found", "e"] ["value", "due"] (defScope s_law_goes) := ⟨rfl, rfl, rfl, by decide +kernel, rfl, by decide +kernel, by decide +kernel⟩
abbrev s_law : Stmt := topS 45
theorem sc_law : FnScope ["script", "well", "value", "k", "late", "due", "term"] ["script"] (defScope s_law) := ⟨rfl, rfl, rfl, by decide +kernel, rfl, by decide +kernel, by decide +kernel⟩
abbrev PP : Program := PySem.Challenge.rw_backafter_k56_whole_rule_texts_spoilt_ag.prog
abbrev c_NoText : Stmt := clsDef (topS 3) 0
theorem ss_NoText : SupS "index" (defScope c_NoText) := ⟨rfl, rfl, rfl, by decide +kernel, by decide +kernel, by decide +kernel, by decide +kernel, by decide +kernel, by decide +kernel, by decide, by decide, by decide⟩
/-- where the defs of the text stand behind the top -/
structure Txt (K : PySem.W.Frag) (mg : Str → Option Value) where
  a_is_whole : Addr
  d_is_whole : FuncData
  F_is_whole : Fun K "is_whole" "is_whole" s_is_whole a_is_whole d_is_whole
  g_is_whole : mg "is_whole" = some (.ref a_is_whole)
  a_to_power : Addr
  d_to_power : FuncData
  F_to_power : Fun K "to_power" "to_power" s_to_power a_to_power d_to_power
  g_to_power : mg "to_power" = some (.ref a_to_power)
  a_parts : Addr
  d_parts : FuncData
  F_parts : Fun K "_parts" "_parts" s_parts a_parts d_parts
  g_parts : mg "_parts" = some (.ref a_parts)
  a_law_well : Addr
  d_law_well : FuncData
  F_law_well : Fun K "_law_well" "_law_well" s_law_well a_law_well d_law_well
  g_law_well : mg "_law_well" = some (.ref a_law_well)
  a_law_pull : Addr
  d_law_pull : FuncData
  F_law_pull : Fun K "_law_pull" "_law_pull" s_law_pull a_law_pull d_law_pull
  g_law_pull : mg "_law_pull" = some (.ref a_law_pull)
  a_law_bracketed : Addr
  d_law_bracketed : FuncData
  F_law_bracketed : Fun K "_law_bracketed" "_law_bracketed" s_law_bracketed a_law_bracketed d_law_bracketed
  g_law_bracketed : mg "_law_bracketed" = some (.ref a_law_bracketed)
  a_law_digits_of : Addr
  d_law_digits_of : FuncData
  F_law_digits_of : Fun K "_law_digits_of" "_law_digits_of" s_law_digits_of a_law_digits_of d_law_digits_of
  g_law_digits_of : mg "_law_digits_of" = some (.ref a_law_digits_of)
  a_law_within : Addr
  d_law_within : FuncData
  F_law_within : Fun K "_law_within" "_law_within" s_law_within a_law_within d_law_within
  g_law_within : mg "_law_within" = some (.ref a_law_within)
  a_is_from_to : Addr
  d_is_from_to : FuncData
  F_is_from_to : Fun K "is_from_to" "is_from_to" s_is_from_to a_is_from_to d_is_from_to
  g_is_from_to : mg "is_from_to" = some (.ref a_is_from_to)
  a_read_natural : Addr
  d_read_natural : FuncData
  F_read_natural : Fun K "read_natural" "read_natural" s_read_natural a_read_natural d_read_natural
  g_read_natural : mg "read_natural" = some (.ref a_read_natural)
  a_law_term_text : Addr
  d_law_term_text : FuncData
  F_law_term_text : Fun K "_law_term_text" "_law_term_text" s_law_term_text a_law_term_text d_law_term_text
  g_law_term_text : mg "_law_term_text" = some (.ref a_law_term_text)
  a_law_number_of : Addr
  d_law_number_of : FuncData
  F_law_number_of : Fun K "_law_number_of" "_law_number_of" s_law_number_of a_law_number_of d_law_number_of
  g_law_number_of : mg "_law_number_of" = some (.ref a_law_number_of)
  a_is_term : Addr
  d_is_term : FuncData
  F_is_term : Fun K "is_term" "is_term" s_is_term a_is_term d_is_term
  g_is_term : mg "is_term" = some (.ref a_is_term)
  a_written : Addr
  d_written : FuncData
  F_written : Fun K "written" "written" s_written a_written d_written
  g_written : mg "written" = some (.ref a_written)
  a_read_whole : Addr
  d_read_whole : FuncData
  F_read_whole : Fun K "read_whole" "read_whole" s_read_whole a_read_whole d_read_whole
  g_read_whole : mg "read_whole" = some (.ref a_read_whole)
  a_law_one_of : Addr
  d_law_one_of : FuncData
  F_law_one_of : Fun K "_law_one_of" "_law_one_of" s_law_one_of a_law_one_of d_law_one_of
  g_law_one_of : mg "_law_one_of" = some (.ref a_law_one_of)
  a_law_bracketed_of : Addr
  d_law_bracketed_of : FuncData
  F_law_bracketed_of : Fun K "_law_bracketed_of" "_law_bracketed_of" s_law_bracketed_of a_law_bracketed_of d_law_bracketed_of
  g_law_bracketed_of : mg "_law_bracketed_of" = some (.ref a_law_bracketed_of)
  a_check_rule : Addr
  d_check_rule : FuncData
  F_check_rule : Fun K "check_rule" "check_rule" s_check_rule a_check_rule d_check_rule
  g_check_rule : mg "check_rule" = some (.ref a_check_rule)
  a_bracketed : Addr
  d_bracketed : FuncData
  F_bracketed : Fun K "_bracketed" "_bracketed" s_bracketed a_bracketed d_bracketed
  g_bracketed : mg "_bracketed" = some (.ref a_bracketed)
  a_read_bracketed : Addr
  d_read_bracketed : FuncData
  F_read_bracketed : Fun K "_read_bracketed" "_read_bracketed" s_read_bracketed a_read_bracketed d_read_bracketed
  g_read_bracketed : mg "_read_bracketed" = some (.ref a_read_bracketed)
  a_law_term : Addr
  d_law_term : FuncData
  F_law_term : Fun K "_law_term" "_law_term" s_law_term a_law_term d_law_term
  g_law_term : mg "_law_term" = some (.ref a_law_term)
  a_law_term_of : Addr
  d_law_term_of : FuncData
  F_law_term_of : Fun K "_law_term_of" "_law_term_of" s_law_term_of a_law_term_of d_law_term_of
  g_law_term_of : mg "_law_term_of" = some (.ref a_law_term_of)
  a_law_spoilt : Addr
  d_law_spoilt : FuncData
  F_law_spoilt : Fun K "_law_spoilt" "_law_spoilt" s_law_spoilt a_law_spoilt d_law_spoilt
  g_law_spoilt : mg "_law_spoilt" = some (.ref a_law_spoilt)
  a_term_text : Addr
  d_term_text : FuncData
  F_term_text : Fun K "_term_text" "_term_text" s_term_text a_term_text d_term_text
  g_term_text : mg "_term_text" = some (.ref a_term_text)
  a_read_term : Addr
  d_read_term : FuncData
  F_read_term : Fun K "_read_term" "_read_term" s_read_term a_read_term d_read_term
  g_read_term : mg "_read_term" = some (.ref a_read_term)
  a_law_rule : Addr
  d_law_rule : FuncData
  F_law_rule : Fun K "_law_rule" "_law_rule" s_law_rule a_law_rule d_law_rule
  g_law_rule : mg "_law_rule" = some (.ref a_law_rule)
  a_law_due : Addr
  d_law_due : FuncData
  F_law_due : Fun K "_law_due" "_law_due" s_law_due a_law_due d_law_due
  g_law_due : mg "_law_due" = some (.ref a_law_due)
  a_rule_text : Addr
  d_rule_text : FuncData
  F_rule_text : Fun K "rule_text" "rule_text" s_rule_text a_rule_text d_rule_text
  g_rule_text : mg "rule_text" = some (.ref a_rule_text)
  a_read_rule : Addr
  d_read_rule : FuncData
  F_read_rule : Fun K "read_rule" "read_rule" s_read_rule a_read_rule d_read_rule
  g_read_rule : mg "read_rule" = some (.ref a_read_rule)
  a_law_goes : Addr
  d_law_goes : FuncData
  F_law_goes : Fun K "_law_goes" "_law_goes" s_law_goes a_law_goes d_law_goes
  g_law_goes : mg "_law_goes" = some (.ref a_law_goes)
  a_law : Addr
  d_law : FuncData
  F_law : Fun K "law" "law" s_law a_law d_law
  g_law : mg "law" = some (.ref a_law)
  t_MOST_COUNT : Tok
  c_MOST_COUNT : mg "MOST_COUNT" = some (.int (1000000) t_MOST_COUNT)
  t_MOST_TERMS : Tok
  c_MOST_TERMS : mg "MOST_TERMS" = some (.int (12) t_MOST_TERMS)
  t__BETWEEN_TERMS : Tok
  c__BETWEEN_TERMS : mg "_BETWEEN_TERMS" = some (.str " + " t__BETWEEN_TERMS)
  t__BITS : Tok
  c__BITS : mg "_BITS" = some (.int (14000) t__BITS)
  t__DIGITS : Tok
  c__DIGITS : mg "_DIGITS" = some (.int (4000) t__DIGITS)
  a_KINDS : Addr
  a_KINDS_0 : Addr
  a_KINDS_1 : Addr
  a_KINDS_2 : Addr
  g_KINDS : mg "KINDS" = some (.ref a_KINDS)
  q_KINDS : FrT K a_KINDS [.ref a_KINDS_0, .ref a_KINDS_1, .ref a_KINDS_2]
  q_KINDS_0 : FrT K a_KINDS_0 [.str "power", .int (-40), .int (40)]
  q_KINDS_1 : FrT K a_KINDS_1 [.str "ring", .int (1), .int (300)]
  q_KINDS_2 : FrT K a_KINDS_2 [.str "places", .int (1), .int (6)]
  z_abs : mg "abs" = none
  z_any : mg "any" = none
  z_bool : mg "bool" = none
  z_enumerate : mg "enumerate" = none
  z_int : mg "int" = none
  z_isinstance : mg "isinstance" = none
  z_len : mg "len" = none
  z_list : mg "list" = none
  z_max : mg "max" = none
  z_min : mg "min" = none
  z_range : mg "range" = none
  z_repr : mg "repr" = none
  z_str : mg "str" = none
  z_tuple : mg "tuple" = none
  a_NoText : Addr
  e_NoText : ErrK K mg "NoText" a_NoText
  fi_NoText : Addr
  fd_NoText : FuncData
  s_NoText : SupC PP K mg a_NoText fi_NoText fd_NoText "index" c_NoText
  sb_NoText : Binds K fd_NoText ["self", "index"] []
section
variable {P : Program} {w : World} {K : PySem.W.Frag} {mg : Str → Option Value} {base : Heap}
theorem b_is_whole (T : Txt K mg) : Binds K T.d_is_whole ["value"] [] := T.F_is_whole.binds fun _ _ _ _ _ _ us hl => match us, hl with | [_], _ => rfl
theorem b_to_power (T : Txt K mg) : Binds K T.d_to_power ["base", "power"] [] := T.F_to_power.binds fun _ _ _ _ _ _ us hl => match us, hl with | [_, _], _ => rfl
theorem b_parts (T : Txt K mg) : Binds K T.d_parts ["text", "between"] [] := T.F_parts.binds fun _ _ _ _ _ _ us hl => match us, hl with | [_, _], _ => rfl
theorem b_law_well (T : Txt K mg) : Binds K T.d_law_well ["script", "k"] [] := T.F_law_well.binds fun _ _ _ _ _ _ us hl => match us, hl with | [_, _], _ => rfl
theorem b_law_pull (T : Txt K mg) : Binds K T.d_law_pull ["well", "many"] [] := T.F_law_pull.binds fun _ _ _ _ _ _ us hl => match us, hl with | [_, _], _ => rfl
theorem b_law_bracketed (T : Txt K mg) : Binds K T.d_law_bracketed ["number"] [] := T.F_law_bracketed.binds fun _ _ _ _ _ _ us hl => match us, hl with | [_], _ => rfl
theorem b_law_digits_of (T : Txt K mg) : Binds K T.d_law_digits_of ["part"] [] := T.F_law_digits_of.binds fun _ _ _ _ _ _ us hl => match us, hl with | [_], _ => rfl
theorem b_law_within (T : Txt K mg) : Binds K T.d_law_within ["number", "least", "most"] [] := T.F_law_within.binds fun _ _ _ _ _ _ us hl => match us, hl with | [_, _, _], _ => rfl
theorem b_is_from_to (T : Txt K mg) : Binds K T.d_is_from_to ["value", "least", "most"] [] := T.F_is_from_to.binds fun _ _ _ _ _ _ us hl => match us, hl with | [_, _, _], _ => rfl
theorem b_read_natural (T : Txt K mg) : Binds K T.d_read_natural ["text"] [] := T.F_read_natural.binds fun _ _ _ _ _ _ us hl => match us, hl with | [_], _ => rfl
theorem b_law_term_text (T : Txt K mg) : Binds K T.d_law_term_text ["term"] [] := T.F_law_term_text.binds fun _ _ _ _ _ _ us hl => match us, hl with | [_], _ => rfl
theorem b_law_number_of (T : Txt K mg) : Binds K T.d_law_number_of ["part"] [] := T.F_law_number_of.binds fun _ _ _ _ _ _ us hl => match us, hl with | [_], _ => rfl
theorem b_is_term (T : Txt K mg) : Binds K T.d_is_term ["value"] [] := T.F_is_term.binds fun _ _ _ _ _ _ us hl => match us, hl with | [_], _ => rfl
theorem b_written (T : Txt K mg) : Binds K T.d_written ["number"] [] := T.F_written.binds fun _ _ _ _ _ _ us hl => match us, hl with | [_], _ => rfl
theorem b_read_whole (T : Txt K mg) : Binds K T.d_read_whole ["text"] [] := T.F_read_whole.binds fun _ _ _ _ _ _ us hl => match us, hl with | [_], _ => rfl
theorem b_law_one_of (T : Txt K mg) : Binds K T.d_law_one_of ["well", "some"] [] := T.F_law_one_of.binds fun _ _ _ _ _ _ us hl => match us, hl with | [_, _], _ => rfl
theorem b_law_bracketed_of (T : Txt K mg) : Binds K T.d_law_bracketed_of ["part"] [] := T.F_law_bracketed_of.binds fun _ _ _ _ _ _ us hl => match us, hl with | [_], _ => rfl
theorem b_check_rule (T : Txt K mg) : Binds K T.d_check_rule ["rule"] [] := T.F_check_rule.binds fun _ _ _ _ _ _ us hl => match us, hl with | [_], _ => rfl
theorem b_bracketed (T : Txt K mg) : Binds K T.d_bracketed ["number"] [] := T.F_bracketed.binds fun _ _ _ _ _ _ us hl => match us, hl with | [_], _ => rfl
theorem b_read_bracketed (T : Txt K mg) : Binds K T.d_read_bracketed ["text"] [] := T.F_read_bracketed.binds fun _ _ _ _ _ _ us hl => match us, hl with | [_], _ => rfl
theorem b_law_term (T : Txt K mg) : Binds K T.d_law_term ["well"] [] := T.F_law_term.binds fun _ _ _ _ _ _ us hl => match us, hl with | [_], _ => rfl
theorem b_law_term_of (T : Txt K mg) : Binds K T.d_law_term_of ["part"] [] := T.F_law_term_of.binds fun _ _ _ _ _ _ us hl => match us, hl with | [_], _ => rfl
theorem b_law_spoilt (T : Txt K mg) : Binds K T.d_law_spoilt ["well", "value"] [] := T.F_law_spoilt.binds fun _ _ _ _ _ _ us hl => match us, hl with | [_, _], _ => rfl
theorem b_term_text (T : Txt K mg) : Binds K T.d_term_text ["term"] [] := T.F_term_text.binds fun _ _ _ _ _ _ us hl => match us, hl with | [_], _ => rfl
theorem b_read_term (T : Txt K mg) : Binds K T.d_read_term ["text"] [] := T.F_read_term.binds fun _ _ _ _ _ _ us hl => match us, hl with | [_], _ => rfl
theorem b_law_rule (T : Txt K mg) : Binds K T.d_law_rule ["well", "most"] [] := T.F_law_rule.binds fun _ _ _ _ _ _ us hl => match us, hl with | [_, _], _ => rfl
theorem b_law_due (T : Txt K mg) : Binds K T.d_law_due ["value"] [] := T.F_law_due.binds fun _ _ _ _ _ _ us hl => match us, hl with | [_], _ => rfl
theorem b_rule_text (T : Txt K mg) : Binds K T.d_rule_text ["rule"] [] := T.F_rule_text.binds fun _ _ _ _ _ _ us hl => match us, hl with | [_], _ => rfl
theorem b_read_rule (T : Txt K mg) : Binds K T.d_read_rule ["text"] [] := T.F_read_rule.binds fun _ _ _ _ _ _ us hl => match us, hl with | [_], _ => rfl
theorem b_law_goes (T : Txt K mg) : Binds K T.d_law_goes ["value", "due"] [] := T.F_law_goes.binds fun _ _ _ _ _ _ us hl => match us, hl with | [_, _], _ => rfl
theorem b_law (T : Txt K mg) : Binds K T.d_law ["script"] [] := T.F_law.binds fun _ _ _ _ _ _ us hl => match us, hl with | [_], _ => rfl
/-! ### is_whole -/
def sp_is_whole (K : PySem.W.Frag) : Sp := fun vs H Q _ => ∃ (x : V) (b : Bool), vs = [x] ∧ ((∃ n, x = .int n ∧ b = true) ∨ (OddV H x ∧ b = false)) ∧ RetV (.bl b) H Q
theorem v_is_whole {K : PySem.W.Frag} {H : Hp} (n : Int) : SpV (sp_is_whole K) [.int n] H (.bl true) := fun H1 e Q q E => ⟨.int n, true, rfl, .inl ⟨n, rfl, rfl⟩, q⟩
theorem v_odd {K : PySem.W.Frag} {H : Hp} {x : V} (h : OddV H x) : SpV (sp_is_whole K) [x] H (.bl false) := fun H1 e Q q E => ⟨x, false, rfl, .inr ⟨h.ex e, rfl⟩, q⟩
theorem ok_is_whole (T : Txt K mg) : FnG PP w K mg base CX0 1 T.a_is_whole T.d_is_whole ["value"] (sp_is_whole K) := by
  refine okG T.F_is_whole sc_is_whole (fun vs H Q E h => ?_) (fun cdv A out s H vs Q E hr h => ?_)
  · obtain ⟨x, b, rfl, hx, q⟩ := h
    rfl
  · obtain ⟨x, b, rfl, hx, q⟩ := h
    refine ⟨_, (pss_one (ps_ret (pe_and (pe_callB (call_isiK' (K := K) rfl) (by rfl) T.z_isinstance bt_isinstance (pa_cons (pv 0) (pa_cons (pe_bltn (v := .ty "int") (by rfl) T.z_int bt_int rfl) pa_nil))) (pe_one (pe_not (pe_callB (call_isiK' (K := K) rfl) (by rfl) T.z_isinstance bt_isinstance (pa_cons (pv 0) (pa_cons (pe_bltn (v := .ty "bool") (by rfl) T.z_bool bt_bool rfl) pa_nil)))))))), ?_⟩
    rcases hx with ⟨n, rfl, rfl⟩ | ⟨hx, rfl⟩
    · exact s_ret (ev_andV (ev_isi (ev_var rfl) (fun _ _ => .base (.int n)) kb_int_int) fun _ => ev_notV (ev_isi (ev_var rfl) (fun _ _ => .base (.int n)) kb_int_bool)) q
    · exact s_ret (ev_odd (ev_var rfl) (ev_var rfl) hx) q
/-! ### to_power -/
def sp_to_power (K : PySem.W.Frag) : Sp := fun vs H Q _ => ∃ (b k : Nat), vs = [.int (b : Int), .int (k : Int)] ∧ (∀ j, j ≤ k → b ^ j < 2 ^ 4000) ∧ RetV (.int ((b ^ k : Nat) : Int)) H Q
theorem v_to_powerW {K : PySem.W.Frag} {H : Hp} {b k : Nat} (hb : ∀ j, j ≤ k → b ^ j < 2 ^ 4000) : SpV (sp_to_power K) [.int (b : Int), .int (k : Int)] H (.int ((b ^ k : Nat) : Int)) := fun H1 e Q q E => ⟨b, k, rfl, hb, q⟩
theorem lt4000 {x : Nat} (h : x < 2 ^ 80) : x < 2 ^ 4000 := Nat.lt_of_lt_of_le h (Nat.pow_le_pow_right (by decide) (by decide))
theorem v_to_power {K : PySem.W.Frag} {H : Hp} {b k : Nat} (hb : b ≤ 5000) (hk : k ≤ 6) : SpV (sp_to_power K) [.int (b : Int), .int (k : Int)] H (.int ((b ^ k : Nat) : Int)) := v_to_powerW fun j hj => lt4000 (Nat.lt_of_le_of_lt (Nat.pow_le_pow_left hb j) (Nat.lt_of_le_of_lt (Nat.pow_le_pow_right (by decide) (show j ≤ 6 by omega)) (by decide)))
theorem pow10_lt {j : Nat} (h : j ≤ 1000) : 10 ^ j < 2 ^ 4000 := Nat.lt_of_le_of_lt (Nat.pow_le_pow_right (by decide) h) (Nat.lt_of_lt_of_le (show 10 ^ 1000 < 16 ^ 1000 from Nat.pow_lt_pow_left (by decide) (by decide)) (Nat.le_of_eq (by rw [show (16 : Nat) = 2 ^ 4 from rfl, ← Nat.pow_mul])))
theorem ok_to_power (T : Txt K mg) : FnG PP w K mg base CX0 1 T.a_to_power T.d_to_power ["base", "power"] (sp_to_power K) := by
  refine okG T.F_to_power sc_to_power (fun vs H Q E h => ?_) (fun cdv A out s H vs Q E hr h => ?_)
  · obtain ⟨b, k, rfl, pw, q⟩ := h
    rfl
  · obtain ⟨b, k, rfl, pw, q⟩ := h
    refine ⟨_, (pss_cons (ps_set (i := 2) sc_to_power.nd rfl (.inl rfl) pe_int)
    (pss_cons (ps_set (i := 3) sc_to_power.nd rfl (.inl rfl) (pv 0))
    (pss_cons (ps_set (i := 4) sc_to_power.nd rfl (.inl rfl) (pv 1))
    (pss_cons (ps_while PassesOwn.never (pt_cmpR op_gt (pv 4) pe_int (nomark _))
      (pss_cons (ps_if (pt_cmpR op_eq (pe_op op_mod (pv 4) pe_int) pe_int (nomark _))
        (pss_one (ps_set (i := 2) sc_to_power.nd rfl (.inl rfl) (pe_op op_mulW (pv 2) (pv 3))))
        pss_nil)
      (pss_cons (ps_set (i := 4) sc_to_power.nd rfl (.inl rfl) (pe_op op_fdivW (pv 4) pe_int))
      (pss_one (ps_if (pt_cmpR op_gt (pv 4) pe_int (nomark _))
        (pss_one (ps_set (i := 3) sc_to_power.nd rfl (.inl rfl) (pe_op op_mulW (pv 3) (pv 3))))
        pss_nil)))))
    (pss_one (ps_ret (pv 2))))))), ?_⟩
    have wm : ∀ x y : Nat, x ≤ k → y ≤ k → CMulW ((b ^ x : Nat) : Int) ((b ^ y : Nat) : Int) := fun x y hx hy => wide_mul (a := 4000) (b := 4000) (by rw [Int.natAbs_natCast]; exact pw x hx) (by rw [Int.natAbs_natCast]; exact pw y hy) (by decide) (by decide) (by decide)
    refine q_asg (v := .int ((b ^ 0 : Nat) : Int)) (ev_is ev_c (by rw [Nat.pow_zero]; rfl)) fun H1 e1 => ?_
    refine q_asg (v := .int ((b ^ 1 : Nat) : Int)) (ev_is (ev_var rfl) (by rw [Nat.pow_one])) fun H2 e2 => ?_
    refine q_asg (ev_var rfl) fun H3 e3 => ?_
    refine q_while (fun m σ' H' => ∃ f s t : Nat, m = t ∧ f + s * t = k ∧ (t = 0 ∨ f < s) ∧ σ' = [some (.int (b : Int)), some (.int (k : Int)), some (.int ((b ^ f : Nat) : Int)), some (.int ((b ^ s : Nat) : Int)), some (.int (t : Int))] ∧ Ex H H') k ?_ ?_
    · exact ⟨0, 1, k, rfl, by omega, .inr (by decide), rfl, (e1.trans e2).trans e3⟩
    rintro t σq H4 ⟨f, s, _, rfl, hs, fs, rfl, e⟩
    refine ⟨decide (0 < t), et_is (et_test (ev_op (ev_var rfl) ev_c (rv_b rfl))) (by simp), ?_, ?_⟩
    · intro hz H5 e5
      have t0 : 0 < t := of_decide_eq_true hz
      have g1 : s ≤ s * t := Nat.le_mul_of_pos_right _ t0
      refine ⟨_, fun σ2 H2 h => h, ?_⟩
      refine q_when (b := decide (t % 2 = 1)) (et_is (et_test (ev_op (ev_op (ev_var rfl) ev_c (rv_I (show (0 : Int) < 2 by decide))) ev_c (rv_eq rfl))) (by simp; omega)) (fun hc H6 e6 => ?_) (fun hc H6 e6 => ?_)
      · obtain ⟨q', rfl⟩ : ∃ q', t = 2 * q' + 1 := ⟨t / 2, by have := of_decide_eq_true hc; omega⟩
        have es : s * (2 * q' + 1) = (s + s) * q' + s := by rw [Nat.mul_add, Nat.mul_one, ← Nat.mul_assoc, Nat.mul_two]
        refine s_asg (v := .int ((b ^ (f + s) : Nat) : Int)) (ev_is (ev_op (ev_var rfl) (ev_var rfl) (rv_I (wm f s (by omega) (by omega)))) (by rw [Nat.pow_add, Int.natCast_mul])) fun H7 e7 => ?_
        have e07 := ((e.trans e5).trans e6).trans e7
        refine q_asg (v := .int ((q' : Nat) : Int)) (ev_is (ev_op (ev_var rfl) ev_c (rv_I (cdw _ (by decide) (by decide)))) (by congr 1; omega)) fun H8 e8 => ?_
        refine s_when (b := decide (0 < q')) (et_is (et_test (ev_op (ev_var rfl) ev_c (rv_b rfl))) (by simp)) (fun hd H9 e9 => ?_) (fun hd H9 e9 => ?_)
        · have q0 : 0 < q' := of_decide_eq_true hd
          have g2 : s + s ≤ (s + s) * q' := Nat.le_mul_of_pos_right _ q0
          refine s_asg (v := .int ((b ^ (s + s) : Nat) : Int)) (ev_is (ev_op (ev_var rfl) (ev_var rfl) (rv_I (wm s s (by omega) (by omega)))) (by rw [Nat.pow_add, Int.natCast_mul])) fun H10 e10 => ?_
          exact ⟨q', by omega, f + s, s + s, q', rfl, by omega, .inr (by omega), rfl, (e07.trans e8).trans (e9.trans e10)⟩
        · have q0 : q' = 0 := by
            have := of_decide_eq_false hd
            omega
          subst q0
          exact ⟨0, by omega, f + s, s, 0, rfl, by omega, .inl rfl, rfl, (e07.trans e8).trans e9⟩
      · obtain ⟨q', rfl⟩ : ∃ q', t = 2 * q' := ⟨t / 2, by have := of_decide_eq_false hc; omega⟩
        have es : s * (2 * q') = (s + s) * q' := by rw [← Nat.mul_assoc, Nat.mul_two]
        have e06 := (e.trans e5).trans e6
        refine q_asg (v := .int ((q' : Nat) : Int)) (ev_is (ev_op (ev_var rfl) ev_c (rv_I (cdw _ (by decide) (by decide)))) (by congr 1; omega)) fun H8 e8 => ?_
        refine s_when (b := decide (0 < q')) (et_is (et_test (ev_op (ev_var rfl) ev_c (rv_b rfl))) (by simp)) (fun hd H9 e9 => ?_) (fun hd H9 e9 => ?_)
        · have q0 : 0 < q' := of_decide_eq_true hd
          have g2 : s + s ≤ (s + s) * q' := Nat.le_mul_of_pos_right _ q0
          refine s_asg (v := .int ((b ^ (s + s) : Nat) : Int)) (ev_is (ev_op (ev_var rfl) (ev_var rfl) (rv_I (wm s s (by omega) (by omega)))) (by rw [Nat.pow_add, Int.natCast_mul])) fun H10 e10 => ?_
          exact ⟨q', by omega, f, s + s, q', rfl, by omega, .inr (by omega), rfl, (e06.trans e8).trans (e9.trans e10)⟩
        · have q0 : q' = 0 := by
            have := of_decide_eq_false hd
            omega
          subst q0
          exact ⟨0, by omega, f, s, 0, rfl, by omega, .inl rfl, rfl, (e06.trans e8).trans e9⟩
    · intro hz H5 e5
      have t0 : t = 0 := by
        have := of_decide_eq_false hz
        omega
      subst t0
      have ek : f = k := by omega
      subst ek
      exact s_ret (ev_var rfl) fun H6 e6 => q H6 ((e.trans e5).trans e6)
/-! ### _parts -/
def sp_parts (K : PySem.W.Frag) : Sp := fun vs H Q _ => ∃ a b : Str, vs = [.str a, .str b] ∧ (b.length == 0) = false ∧ a.length + 2 ≤ sizeLine ∧ RetL ((Txt.split a b).map V.str) H Q
theorem l_parts {K : PySem.W.Frag} {H : Hp} {a b : Str} (hb : (b.length == 0) = false) (ha : a.length + 2 ≤ sizeLine) : SpL (sp_parts K) [.str a, .str b] H ((Txt.split a b).map V.str) := fun H1 e Q q E => ⟨a, b, rfl, hb, ha, q⟩
theorem ok_parts (T : Txt K mg) : FnG PP w K mg base CX0 1 T.a_parts T.d_parts ["text", "between"] (sp_parts K) := by
  refine okG T.F_parts sc_parts (fun vs H Q E h => ?_) (fun cdv A out s H vs Q E hr h => ?_)
  · obtain ⟨a, b, rfl, hb, ha, q⟩ := h
    rfl
  · obtain ⟨a, b, rfl, hb, ha, q⟩ := h
    refine ⟨_, (pss_cons (ps_if (pt_not (pt_val (pe_callB (call_isiK' (K := K) rfl) (by rfl) T.z_isinstance bt_isinstance (pa_cons (pv 0) (pa_cons (pe_bltn (v := .ty "str") (by rfl) T.z_str bt_str rfl) pa_nil)))))
      (pss_one ps_never)
      pss_nil)
    (pss_one (ps_ret (pe_m1 PySem.F.slot_str_split PySem.F.type_str_split mt_splitR (pv 0) (pv 1))))), ?_⟩
    refine q_when (b := false) (et_not (a := true) (et_B (ev_isi (ev_var rfl) (fun H1 e => .base (.str _)) kb_str_str))) (fun h => nomatch h) fun _ H1 e1 => ?_
    exact s_retL (el_split (ev_var rfl) (ev_var rfl) hb ha) fun p H2 hp e2 g => q p H2 (fresh_back e1 hp) (e1.trans e2) g
/-! ### _law_well -/
def sp_law_well (K : PySem.W.Frag) : Sp := fun vs H Q _ => ∃ (a : Addr) (ns : List Int) (k : Int), vs = [.ref a, .int k] ∧ SqL K H a (vi ns) ∧ 0 ≤ k ∧ k ≤ 63 ∧ ∀ p H2, H p = none → Ex H H2 → Well H2 p 0 → Q (.ref p) H2
theorem ok_law_well (T : Txt K mg) : FnG PP w K mg base CX0 1 T.a_law_well T.d_law_well ["script", "k"] (sp_law_well K) := by
  refine okG T.F_law_well sc_law_well (fun vs H Q E h => ?_) (fun cdv A out s H vs Q E hr h => ?_)
  · obtain ⟨a, ns, k, rfl, hS, h0, h1, q⟩ := h
    rfl
  · obtain ⟨a, ns, k, rfl, hS, h0, h1, q⟩ := h
    refine ⟨_, (pss_cons (ps_set (i := 2) sc_law_well.nd rfl (.inl rfl) (pe_ifExp (pt_cmpR op_lt (pv 1) (pe_callB (call_lenK (K := K) rfl) (by rfl) T.z_len bt_len (pa_cons (pv 0) pa_nil)) (nomark _)) (pe_callB call_abs (by rfl) T.z_abs bt_abs (pa_cons (pe_callTy call_int1 (by rfl) T.z_int bt_int (pa_cons (pe_ix (ix_listK (K := K) rfl) (pv 0) (pv 1) (fun _ _ => rfl)) pa_nil)) pa_nil)) pe_int))
    (pss_one (ps_ret (pe_lst (pa_cons (pe_callB (call_max2 rfl) (by rfl) T.z_max bt_max (pa_cons pe_int (pa_cons (pe_op op_sub (pv 2) (pe_op op_powW pe_int pe_int)) pa_nil))) (pa_cons (pe_op op_add (pe_op op_add (pe_op op_mul (pe_op op_mod (pe_callTy call_int1 (by rfl) T.z_int bt_int (pa_cons (pv 2) pa_nil)) (pe_op op_add (pe_op op_powW pe_int pe_int) pe_int)) pe_int) (pe_op op_mul pe_int (pv 1))) pe_int) (pa_cons pe_int pa_nil))))))), ?_⟩
    refine q_asg (v := .int (if k < (ns.length : Int) then (if ns.getD k.toNat 0 < 0 then -ns.getD k.toNat 0 else ns.getD k.toNat 0) else 0)) ?_ fun H1 e1 => ?_
    · by_cases hk : k < ns.length
      · obtain ⟨j, rfl⟩ : ∃ j : Nat, k = j := ⟨k.toNat, by omega⟩
        have hj : j < ns.length := by omega
        have hx : (vi ns)[j]? = some (.int (ns.getD j 0)) := by
          rw [vi_at hj, List.getD_eq_getElem?_getD, List.getElem?_eq_getElem hj]
          rfl
        rw [if_pos hk]
        exact ev_if (b := true) (et_test (ev_op (ev_var rfl) (ev_len (ev_var rfl) hS) (rv_b (decide_eq_true (by rw [List.length_map]; exact hk))))) (fun _ => ev_abs (ev_int1 (ev_op (ev_var rfl) (ev_var rfl) (rv_ixL hS (atI_nat hx))))) (fun h => nomatch h)
      · rw [if_neg hk]
        exact ev_if (b := false) (et_test (ev_op (ev_var rfl) (ev_len (ev_var rfl) hS) (rv_b (decide_eq_false (by rw [List.length_map]; exact hk))))) (fun h => nomatch h) (fun _ => ev_c)
    generalize (if k < (ns.length : Int) then (if ns.getD k.toNat 0 < 0 then -ns.getD k.toNat 0 else ns.getD k.toNat 0) else 0) = cell
    refine s_retL (xs := [_, _, _]) (el_lst (ea_cons (ev_max2 ev_c (ev_op (ev_var rfl) (ev_op ev_c ev_c (rv_I (cpw (by decide) (by decide) (by decide)))) rv_I0)) (ea_cons (ev_op (ev_op (ev_op (ev_op (ev_int1 (ev_var rfl)) (ev_op (ev_op ev_c ev_c (rv_I (cpw (by decide) (by decide) (by decide)))) ev_c rv_I0) (rv_I (by have := p10_pos (Int.toNat 36); omega))) ev_c (rv_I (.inr (by decide)))) (ev_op ev_c (ev_var rfl) (rv_I (cml (by decide)))) rv_I0) ev_c rv_I0) (ea_cons ev_c ea_nil))) (by show 3 ≤ 100000; decide)) fun p H2 hp e2 h2 => ?_
    refine q p H2 (fresh_back e1 hp) (e1.trans e2) ⟨_, _, _, h2, ?_, ?_, by decide, by decide⟩
    · have := Int.emod_nonneg cell (show (10 : Int) ^ Int.toNat 36 + 67 ≠ 0 by have := p10_pos (Int.toNat 36); omega)
      omega
    · have := Int.emod_lt_of_pos cell (show (0 : Int) < 10 ^ Int.toNat 36 + 67 by have := p10_pos (Int.toNat 36); omega)
      have e : (10 : Int) ^ Int.toNat 36 = 1000000000000000000000000000000000000 := by decide
      omega
/-! ### _law_pull -/
abbrev sp_law_pull := sp_dr
theorem ok_law_pull (T : Txt K mg) : FnG PP w K mg base CX0 1 T.a_law_pull T.d_law_pull ["well", "many"] (sp_law_pull K) := by
  refine okG T.F_law_pull sc_law_pull (fun vs H Q E h => ?_) (fun cdv A out s H vs Q E hr h => ?_)
  · obtain ⟨a, n, m, rfl, ⟨x, y, c, hW, y0, y1, c0, c1⟩, hn, m0, m1, q⟩ := h
    rfl
  · obtain ⟨a, n, m, rfl, ⟨x, y, c, hW, y0, y1, c0, c1⟩, hn, m0, m1, q⟩ := h
    refine ⟨_, (pss_cons (ps_if (pt_cmpR op_gt (pe_ix (ix_listK (K := K) rfl) (pv 0) pe_int (fun _ _ => rfl)) pe_int (nomark _))
      (pss_cons (ps_set (i := 2) sc_law_pull.nd rfl (.inl rfl) (pe_op op_mod (pe_callTy call_int1 (by rfl) T.z_int bt_int (pa_cons (pe_ix (ix_listK (K := K) rfl) (pv 0) pe_int (fun _ _ => rfl)) pa_nil)) (pv 1)))
      (pss_cons (ps_asg (pe_op op_fdivW (pe_ix (ix_listK (K := K) rfl) (pv 0) pe_int (fun _ _ => rfl)) (pv 1)) (pg_sub (pv 0) pe_int set_list))
      (pss_one (ps_ret (pv 2)))))
      pss_nil)
    (pss_cons (ps_asg (pe_op op_add (pe_ix (ix_listK (K := K) rfl) (pv 0) pe_int (fun _ _ => rfl)) pe_int) (pg_sub (pv 0) pe_int set_list))
    (pss_cons (ps_set (i := 3) sc_law_pull.nd rfl (.inl rfl) (pe_op op_mod (pe_callTy call_int1 (by rfl) T.z_int bt_int (pa_cons (pe_op op_powW (pe_op op_add (pe_ix (ix_listK (K := K) rfl) (pv 0) pe_int (fun _ _ => rfl)) (pe_op op_mul pe_int (pe_ix (ix_listK (K := K) rfl) (pv 0) pe_int (fun _ _ => rfl)))) pe_int) pa_nil)) (pe_op op_add (pe_op op_powW pe_int pe_int) pe_int)))
    (pss_cons (ps_set (i := 3) sc_law_pull.nd rfl (.inl rfl) (pe_op op_mod (pe_callTy call_int1 (by rfl) T.z_int bt_int (pa_cons (pe_op op_powW (pe_op op_add (pv 3) (pe_op op_mul pe_int (pe_ix (ix_listK (K := K) rfl) (pv 0) pe_int (fun _ _ => rfl)))) pe_int) pa_nil)) (pe_op op_add (pe_op op_powW pe_int pe_int) pe_int)))
    (pss_one (ps_ret (pe_op op_mod (pe_callTy call_int1 (by rfl) T.z_int bt_int (pa_cons (pe_op op_fdivW (pv 3) (pe_op op_powW pe_int pe_int)) pa_nil)) (pv 1)))))))), ?_⟩
    have hS := sq_of (K := K) hW
    by_cases hx : 0 < x
    · refine q_when (b := true) (et_test (ev_op (ev_op (ev_var rfl) ev_c (rv_ixL hS rfl)) ev_c (rv_b (decide_eq_true hx)))) (fun _ H1 e1 => ?_) (fun h => nomatch h)
      refine q_asg (ev_op (ev_int1 (ev_op (ev_var rfl) ev_c (rv_ixL (ex_l e1 hS) rfl))) (ev_var rfl) (rv_I m0)) fun H2 e2 => ?_
      have hW2 := e2 _ _ (e1 _ _ hW)
      refine q_setL (j := 0) hW2 (ev_op (ev_op (ev_var rfl) ev_c (rv_ixL (sq_of hW2) rfl)) (ev_var rfl) (rv_I (cdw8 _ m0 m1))) (ev_var rfl) ev_c (by show 0 < 3; decide) fun H3 e3 => ?_
      refine s_ret (ev_var rfl) fun H4 e4 => ?_
      refine q _ H4 (((But.ex ((e1.trans e2).trans e3)).trans .at).trans (But.ex e4)) ⟨_, _, _, e4 _ _ upd_same, y0, y1, c0, by omega⟩ (Int.emod_nonneg _ (by omega)) (Int.emod_lt_of_pos _ m0)
    · refine q_when (b := false) (et_test (ev_op (ev_op (ev_var rfl) ev_c (rv_ixL hS rfl)) ev_c (rv_b (decide_eq_false hx)))) (fun h => nomatch h) (fun _ H1 e1 => ?_)
      have hW1 := e1 _ _ hW
      refine q_setL (j := 2) hW1 (ev_op (ev_op (ev_var rfl) ev_c (rv_ixL (sq_of hW1) rfl)) ev_c rv_I0) (ev_var rfl) ev_c (by show 2 < 3; decide) fun H2 e2 => ?_
      have hW2 : upd H2 a (.lst ([.int x, .int y, .int c].set 2 (.int (c + 1)))) a = some (.lst [.int x, .int y, .int (c + 1)]) := upd_same
      have hS2 := sq_of (K := K) hW2
      refine q_asg (ev_op (ev_int1 (ev_op (ev_op (ev_op (ev_var rfl) ev_c (rv_ixL hS2 rfl)) (ev_op ev_c (ev_op (ev_var rfl) ev_c (rv_ixL hS2 rfl)) (rv_I (cml (by decide)))) rv_I0) ev_c (rv_I (cpw (by omega) (by decide) (by decide))))) (ev_op (ev_op ev_c ev_c (rv_I (cpw (by decide) (by decide) (by decide)))) ev_c rv_I0) (rv_I (by have := p10_pos (Int.toNat 40); omega))) fun H3 e3 => ?_
      have hS3 := ex_l e3 hS2
      have b0 := Int.emod_nonneg ((y + 472882027 * (c + 1)) ^ Int.toNat 3) (show (10 : Int) ^ Int.toNat 40 + 121 ≠ 0 by have := p10_pos (Int.toNat 40); omega)
      have b1 := Int.emod_lt_of_pos ((y + 472882027 * (c + 1)) ^ Int.toNat 3) (show (0 : Int) < 10 ^ Int.toNat 40 + 121 by have := p10_pos (Int.toNat 40); omega)
      have e40 : (10 : Int) ^ Int.toNat 40 = 10000000000000000000000000000000000000000 := by decide
      refine q_asg (ev_op (ev_int1 (ev_op (ev_op (ev_var rfl) (ev_op ev_c (ev_op (ev_var rfl) ev_c (rv_ixL hS3 rfl)) (rv_I (cml (by decide)))) rv_I0) ev_c (rv_I (cpw (by omega) (by decide) (by decide))))) (ev_op (ev_op ev_c ev_c (rv_I (cpw (by decide) (by decide) (by decide)))) ev_c rv_I0) (rv_I (by have := p10_pos (Int.toNat 39); omega))) fun H4 e4 => ?_
      refine s_ret (ev_op (ev_int1 (ev_op (ev_var rfl) (ev_op ev_c ev_c (rv_I (cpw (by decide) (by decide) (by decide)))) (rv_I (cdw _ (p10_pos _) (by decide))))) (ev_var rfl) (rv_I m0)) fun H5 e5 => ?_
      refine q _ H5 ((((But.ex (e1.trans e2)).trans .at).trans (But.ex (e3.trans e4))).trans (But.ex e5)) ⟨_, _, _, e5 _ _ (e4 _ _ (e3 _ _ hW2)), y0, y1, by omega, by omega⟩ (Int.emod_nonneg _ (by omega)) (Int.emod_lt_of_pos _ m0)
/-! ### _law_bracketed -/
def sp_law_bracketed (K : PySem.W.Frag) : Sp := fun vs H Q _ => ∃ n : Int, vs = [.int n] ∧ NumOk n ∧ RetV (.str (S (brT n))) H Q
theorem v_law_bracketed {K : PySem.W.Frag} {H : Hp} {n : Int} (h : NumOk n) : SpV (sp_law_bracketed K) [.int n] H (.str (S (brT n))) := fun H1 e Q q E => ⟨n, rfl, h, q⟩
theorem ev_strO {σ : L2.St} {H : Hp} {te : TE} {n : Int} (h : Ev te σ H (.int n)) (h0 : NumOk n) : Ev (tCB (fun xs H Q => ∃ i, xs = [V.int i] ∧ i.natAbs.log2 < 1920 ∧ Q (.str (toString i)) H) (tCons te tNil)) σ H (.str (S (numT n))) := ev_is (ev_strI h (log_num (num_ok h0).1)) (congrArg V.str (str_num n))
theorem ok_law_bracketed (T : Txt K mg) : FnG PP w K mg base CX0 1 T.a_law_bracketed T.d_law_bracketed ["number"] (sp_law_bracketed K) := by
  refine okG T.F_law_bracketed sc_law_bracketed (fun vs H Q E h => ?_) (fun cdv A out s H vs Q E hr h => ?_)
  · obtain ⟨n, rfl, h0, q⟩ := h
    rfl
  · obtain ⟨n, rfl, h0, q⟩ := h
    refine ⟨_, (pss_one (ps_ret (pe_ifExp (pt_cmpR op_ge (pv 0) pe_int (nomark _)) (pe_callTy call_str_int (by rfl) T.z_str bt_str (pa_cons (pv 0) pa_nil)) (pe_op op_add_str (pe_op op_add_str pe_str (pe_callTy call_str_int (by rfl) T.z_str bt_str (pa_cons (pv 0) pa_nil))) pe_str)))), ?_⟩
    have nz := num_len h0
    by_cases hn : n < 0
    · exact s_ret (ev_if (b := false) (et_test (ev_op (ev_var rfl) ev_c (rv_b (decide_eq_false (by omega))))) (fun h => nomatch h) (fun _ => ev_is (ev_addT (a := 40 :: numT n) (b := [41]) (ev_addT (a := [40]) (b := numT n) ev_c (ev_strO (ev_var rfl) h0) (by ((try simp only [List.length_append, List.length_cons, List.length_nil]); omega))) ev_c (by ((try simp only [List.length_append, List.length_cons, List.length_nil]); omega))) (by rw [br_neg hn]; rfl))) q
    · exact s_ret (ev_if (b := true) (et_test (ev_op (ev_var rfl) ev_c (rv_b (decide_eq_true (by omega))))) (fun _ => ev_is (ev_strO (ev_var rfl) h0) (by rw [br_pos hn])) (fun h => nomatch h)) q
/-! ### _law_digits_of -/
def sp_law_digits_of (K : PySem.W.Frag) : Sp := fun vs H Q _ => ∃ l : List Nat, vs = [.str (S l)] ∧ l.length ≤ 640 ∧ okS l ∧ RetV (optN (natT l)) H Q
theorem v_digits {K : PySem.W.Frag} {H : Hp} {l : List Nat} (h : l.length ≤ 640) (ok : okS l) : SpV (sp_law_digits_of K) [.str (S l)] H (optN (natT l)) := fun H1 e Q q E => ⟨l, rfl, h, ok, q⟩
theorem ok_law_digits_of (T : Txt K mg) : FnG PP w K mg base CX0 1 T.a_law_digits_of T.d_law_digits_of ["part"] (sp_law_digits_of K) := by
  refine okG T.F_law_digits_of sc_law_digits_of (fun vs H Q E h => ?_) (fun cdv A out s H vs Q E hr h => ?_)
  · obtain ⟨l, rfl, hl, ok, q⟩ := h
    rfl
  · obtain ⟨l, rfl, hl, ok, q⟩ := h
    refine ⟨_, (pss_cons (ps_if (PW.pt (pw_or (pt_cmpR op_eq (pv 0) pe_str (nomark _)) (pw_or1 (pt_cmpR (op_neDK (K := K) rfl hr.rm.units) (pe_lc (own := [("sign", 1)]) (g := gName 1) rfl sc_law_digits_of.nd (pi_str (pv 0)) (blkOk_by (own := [("sign", 1)]) (N := ["part", "sign"]) (sc := defScope s_law_digits_of) (by decide +kernel)) (fun _ _ _ _ _ => (pg_name (i := 1) sc_law_digits_of.nd rfl (Or.inl rfl))) (fun _ _ _ _ _ => (pts_one (pt_cmpR op_notInS (pv 1) pe_str rfl))) (fun _ _ _ _ _ => (pv 1))) (pe_lst pa_nil) (nomark _)))))
      (pss_one (ps_ret pe_non))
      pss_nil)
    (pss_one (ps_ret (pe_ifExp (PW.pt (pw_and (pt_cmpR op_eq (pe_ix ix_str (pv 0) pe_int (fun _ _ => rfl)) pe_str (nomark _)) (pw_and1 (pt_cmpR op_ne (pv 0) pe_str (nomark _))))) pe_non (pe_callTy call_int_str (by rfl) T.z_int bt_int (pa_cons (pv 0) pa_nil)))))), ?_⟩
    by_cases h0 : l = []
    · subst h0
      exact q_when (b := true) (et_or (a := true) (b := true) (et_is (et_test (ev_op (ev_var rfl) ev_c (rv_eq rfl))) rfl) (fun h => nomatch h)) (fun _ H1 e1 => s_ret ev_c fun H2 e2 => q H2 (e1.trans e2)) (fun h => nomatch h)
    have t1 : EvT (tTest (tOp rEq (tVar 0) (tC (.str "")))) [some (.str (S l)), none] H false := et_is (et_test (ev_op (ev_var rfl) ev_c (rv_eq rfl))) ((V_dec l []).trans (decide_eq_false h0))
    have odd : ∀ {j : Nat} {ws : List Nat} {σ : L2.St} {H1 : Hp} {tl te : TE} {tt : TT}, Ev tl σ H1 (.str (S l)) → (∀ x, wipe ((wipe σ ws).set j (some x)) ws = wipe σ ws) → (∀ (c : Nat) H2, EvT tt ((wipe σ ws).set j (some (.str (S [c])))) H2 (!decide (c ∈ tenS))) → (∀ (c : Nat) H2, Ev te ((wipe σ ws).set j (some (.str (S [c])))) H2 (.str (S [c]))) →
        EvT (tTest (tOp (rNeD K) (tLc (iStr tl) (gName j) tt te ws) (tLst tNil))) σ H1 (!l.all dg) := fun h1 h2 h3 h4 => et_is (et_test (ev_neTT (bs := []) (signs_ok ok _) (fun _ h => nomatch h) (el_lcS (fun c => !dg c) h1 (by omega) h2 (fun c H2 e2 _ => et_is (h3 c H2) (ten_mem c)) fun c H2 e2 _ _ => h4 c H2) (el_lst ea_nil (Nat.zero_le _)))) (odd_dec l)
    cases hd : l.all dg with
    | false =>
      rw [natT_nd hd] at q
      exact q_when (b := true) (et_or (a := false) (b := true) t1 fun _ => et_is (odd (ev_var rfl) (fun _ => rfl) (fun c H2 => et_test (ev_notInS (c := c) (l := tenS) (ev_var rfl) ev_c)) (fun c H2 => ev_var rfl)) (by rw [hd]; rfl)) (fun _ H1 e1 => s_ret ev_c fun H2 e2 => q H2 (e1.trans e2)) (fun h => nomatch h)
    | true =>
      refine q_when (b := false) (et_or (a := false) (b := false) t1 fun _ => et_is (odd (ev_var rfl) (fun _ => rfl) (fun c H2 => et_test (ev_notInS (c := c) (l := tenS) (ev_var rfl) ev_c)) (fun c H2 => ev_var rfl)) (by rw [hd]; rfl)) (fun h => nomatch h) fun _ H1 e1 => ?_
      obtain ⟨c, r, rfl⟩ : ∃ c r, l = c :: r := by
        cases l with
        | nil => exact absurd rfl h0
        | cons c r => exact ⟨c, r, rfl⟩
      have tf : ∀ {H1}, EvT (tTest (tOp rEq (tOp rIxS (tVar 0) (tC (.int 0))) (tC (.str "0")))) [some (.str (S (c :: r))), none] H1 (decide ([c] = [48])) := et_is (et_test (ev_op (ev_op (ev_var rfl) ev_c (rv_ixTx (i := 0) (c := c) (by omega) (show atI _ ((0 : Nat) : Int) = _ from atI_nat rfl))) ev_c (rv_eq rfl))) (V_dec [c] [48])
      have tw : ∀ {H1}, EvT (tTest (tOp rNe (tVar 0) (tC (.str "0")))) [some (.str (S (c :: r))), none] H1 (!decide ((c :: r) = [48])) := et_is (et_test (ev_op (ev_var rfl) ev_c (rv_ne rfl))) (congrArg Bool.not (V_dec (c :: r) [48]))
      by_cases h48 : c = 48
      · subst h48
        by_cases hr : r = []
        · subst hr
          have hn := natT_dd hd fun _ => rfl
          have hv := natT_val hn (by omega)
          rw [hn] at q
          exact s_ret (ev_if (b := false) (et_and (a := true) (b := false) (et_is tf rfl) fun _ => et_is tw rfl) (fun h => nomatch h) (fun _ => ev_intS (ev_var rfl) hv (by rw [S_len]; exact hl))) fun H2 e2 => q H2 (e1.trans e2)
        · rw [natT_zz hr] at q
          have ne : ¬ ((48 :: r) = [48]) := fun z => by
            injection z with _ x
            exact hr x
          exact s_ret (ev_if (b := true) (et_and (a := true) (b := true) (et_is tf rfl) fun _ => et_is tw (by rw [decide_eq_false ne]; rfl)) (fun _ => ev_c) (fun h => nomatch h)) fun H2 e2 => q H2 (e1.trans e2)
      · have hn := natT_dd hd fun z => absurd z h48
        have hv := natT_val hn (by omega)
        rw [hn] at q
        have ne : ¬ ([c] = [48]) := fun z => by
          injection z with z1
          exact h48 z1
        exact s_ret (ev_if (b := false) (et_and (a := false) (b := false) (et_is tf (decide_eq_false ne)) (fun h => nomatch h)) (fun h => nomatch h) (fun _ => ev_intS (ev_var rfl) hv (by rw [S_len]; exact hl))) fun H2 e2 => q H2 (e1.trans e2)
/-! ### _law_within -/
def sp_law_within (K : PySem.W.Frag) : Sp := fun us H Q _ => ∃ (o : Option Int) (lo hi : Int), us = [optI o, .int lo, .int hi] ∧ RetV (.bl (inZ o lo hi)) H Q
theorem v_within {K : PySem.W.Frag} {H : Hp} {o : Option Int} {lo hi : Int} : SpV (sp_law_within K) [optI o, .int lo, .int hi] H (.bl (inZ o lo hi)) := fun H1 e Q q E => ⟨o, lo, hi, rfl, q⟩
theorem ok_law_within (T : Txt K mg) : FnG PP w K mg base CX0 1 T.a_law_within T.d_law_within ["number", "least", "most"] (sp_law_within K) := by
  refine okG T.F_law_within sc_law_within (fun vs H Q E h => ?_) (fun cdv A out s H vs Q E hr h => ?_)
  · obtain ⟨o, lo, hi, rfl, q⟩ := h
    rfl
  · obtain ⟨o, lo, hi, rfl, q⟩ := h
    refine ⟨_, (pss_one (ps_ret (pe_and (pe_cmpR op_notN (pv 0) pe_non (nomark _)) (pe_one (pe_chain op_le op_le (pv 1) (pv 0) (pv 2)))))), ?_⟩
    cases o with
    | none => exact s_ret (ev_andV (a := false) (b := false) (ev_is (ev_op (ev_var rfl) ev_c rv_notN) rfl) (fun h => nomatch h)) fun H1 e1 => q H1 e1
    | some n => exact s_ret (ev_andV (a := true) (b := inZ (some n) lo hi) (ev_is (ev_op (ev_var rfl) ev_c rv_notN) rfl) fun _ => ev_chain (a := decide (lo ≤ n)) (b := decide (n ≤ hi)) (ev_var rfl) (ev_var rfl) (rv_b rfl) (fun _ => ev_var rfl) (fun _ => rv_b rfl)) fun H1 e1 => q H1 e1
/-! ### is_from_to -/
def sp_is_from_to (K : PySem.W.Frag) : Sp := fun vs H Q _ => ∃ (x : V) (o : Option Int) (lo hi : Int), vs = [x, .int lo, .int hi] ∧ NV H x o ∧ RetV (.bl (inZ o lo hi)) H Q
theorem v_is_from_toN {K : PySem.W.Frag} {H : Hp} {x : V} {o : Option Int} {lo hi : Int} (h : NV H x o) : SpV (sp_is_from_to K) [x, .int lo, .int hi] H (.bl (inZ o lo hi)) := fun H1 e Q q E => ⟨x, o, lo, hi, rfl, h.ex e, q⟩
theorem v_is_from_to {K : PySem.W.Frag} {H : Hp} {m lo hi : Int} : SpV (sp_is_from_to K) [.int m, .int lo, .int hi] H (.bl (decide (lo ≤ m) && decide (m ≤ hi))) := v_is_from_toN (o := some m) rfl
theorem ok_is_from_to (T : Txt K mg) : FnG PP w K mg base CX0 2 T.a_is_from_to T.d_is_from_to ["value", "least", "most"] (sp_is_from_to K) := by
  refine okG T.F_is_from_to sc_is_from_to (fun vs H Q E h => ?_) (fun cdv A out s H vs Q E hr h => ?_)
  · obtain ⟨x, o, lo, hi, rfl, hx, q⟩ := h
    rfl
  · obtain ⟨x, o, lo, hi, rfl, hx, q⟩ := h
    refine ⟨_, (pss_one (ps_ret (pe_and (callG (ok_is_whole T) (hr.mono (by decide)) (by rfl) T.g_is_whole T.F_is_whole.kp (b_is_whole T) .nil pass0 (pa_cons (pv 0) pa_nil)) (pe_one (pe_chain op_le op_le (pv 1) (pv 0) (pv 2)))))), ?_⟩
    match o, hx with
    | some m, hx =>
      obtain rfl : x = .int m := hx
      exact s_ret (ev_is (ev_andV (a := true) (ev_call (ea_cons (ev_var rfl) ea_nil) (v_is_whole m)) fun _ => ev_chain (ev_var rfl) (ev_var rfl) (rv_b rfl) (fun _ => ev_var rfl) fun _ => rv_b rfl) (by rw [Bool.true_and]; rfl)) q
    | none, hx => exact s_ret (ev_andV (a := false) (b := false) (ev_call (ea_cons (ev_var rfl) ea_nil) (v_odd hx)) (fun h => nomatch h)) q
/-! ### written0 -/
def sp_written0 (K : PySem.W.Frag) : Sp := fun vs H Q _ => ∃ n : Int, vs = [.int n] ∧ 0 ≤ n ∧ n.natAbs < 2 ^ 1900 ∧ RetV (.str (S (numT n))) H Q
theorem v_written0 {K : PySem.W.Frag} {H : Hp} {n : Int} (h0 : 0 ≤ n) (h : n.natAbs < 2 ^ 1900) : SpV (sp_written0 K) [.int n] H (.str (S (numT n))) := fun H1 e Q q E => ⟨n, rfl, h0, h, q⟩
theorem ok_written0 (T : Txt K mg) : FnG PP w K mg base CX0 2 T.a_written T.d_written ["number"] (sp_written0 K) := by
  refine okG T.F_written sc_written (fun vs H Q E h => ?_) (fun cdv A out s H vs Q E hr h => ?_)
  · obtain ⟨n, rfl, h0, hn, q⟩ := h
    rfl
  · obtain ⟨n, rfl, h0, hn, q⟩ := h
    refine ⟨_, (pss_cons (ps_if (pt_cmpR op_lt (pv 0) pe_int (nomark _))
      (pss_one ps_never)
      pss_nil)
    (pss_cons (ps_if (pt_cmpR op_le (pe_bits (pv 0)) (pe_glob (v := .int 14000) rfl T.c__BITS ⟨_, rfl⟩) (nomark _))
      (pss_one (ps_ret (pe_callTy call_str_int (by rfl) T.z_str bt_str (pa_cons (pv 0) pa_nil))))
      pss_nil)
    (pss_cons ps_never
    (pss_cons ps_never
    (pss_cons ps_never
    (pss_cons ps_never
    (pss_one ps_never))))))), ?_⟩
    refine q_when (b := false) (et_test (ev_op (ev_var rfl) ev_c (rv_b (decide_eq_false (by omega))))) (fun h => nomatch h) fun _ H1 e1 => ?_
    refine q_when (b := true) (et_test (ev_op (ev_bits (ev_var rfl)) ev_c (rv_b (decide_eq_true (bits_num hn))))) (fun _ H2 e2 => ?_) (fun h => nomatch h)
    exact s_ret (ev_is (ev_strI (ev_var rfl) (log_num hn)) (congrArg V.str (str_num n))) fun H3 e3 => q H3 ((e1.trans e2).trans e3)
/-! ### read_natural -/
def sp_read_natural (K : PySem.W.Frag) : Sp := fun vs H Q _ => ∃ l : List Nat, vs = [.str (S l)] ∧ l.length ≤ 640 ∧ RetV (optN (natT l)) H Q
theorem v_read_natural {K : PySem.W.Frag} {H : Hp} {l : List Nat} (h : l.length ≤ 640) : SpV (sp_read_natural K) [.str (S l)] H (optN (natT l)) := fun H1 e Q q E => ⟨l, rfl, h, q⟩
theorem asc_dig (l : List Nat) : (!(Txt.isascii (S l)) || !(Txt.isdigit (S l))) = !(decide (0 < l.length) && l.all dg) := by
  by_cases h : (l.all fun c => decide (c < 128)) = true
  · rw [asc_S, h, dig_S h]
    rfl
  · rw [asc_S]
    rw [Bool.not_eq_true] at h
    rw [h]
    cases e : l.all dg with
    | false => simp
    | true =>
      rw [dg_asc e] at h
      cases h
theorem ok_read_natural (T : Txt K mg) : FnG PP w K mg base CX0 2 T.a_read_natural T.d_read_natural ["text"] (sp_read_natural K) := by
  refine okG T.F_read_natural sc_read_natural (fun vs H Q E h => ?_) (fun cdv A out s H vs Q E hr h => ?_)
  · obtain ⟨l, rfl, hl, q⟩ := h
    rfl
  · obtain ⟨l, rfl, hl, q⟩ := h
    refine ⟨_, (pss_cons (ps_if (PW.pt (pw_or (pt_not (pt_val (pe_m0 PySem.F.slot_str_isascii PySem.F.type_str_isascii mt_isascii0 (pv 0)))) (pw_or1 (pt_not (pt_val (pe_m0 PySem.F.slot_str_isdigit PySem.F.type_str_isdigit mt_isdigit0 (pv 0)))))))
      (pss_one (ps_ret pe_non))
      pss_nil)
    (pss_cons (ps_if (PW.pt (pw_and (pt_val (pe_m1 PySem.F.slot_str_startswith PySem.F.type_str_startswith mt_startswith1 (pv 0) pe_str)) (pw_and1 (pt_cmpR op_ne (pv 0) pe_str (nomark _)))))
      (pss_one (ps_ret pe_non))
      pss_nil)
    (pss_cons (ps_set (i := 1) sc_read_natural.nd rfl (.inl rfl) pe_int)
    (pss_cons (ps_for PassesOwn.never rfl (pi_range3 (by rfl) T.z_range (pa_cons pe_int (pa_cons (pe_callB call_len_str (by rfl) T.z_len bt_len (pa_cons (pv 0) pa_nil)) (pa_cons (pe_glob (v := .int 4000) rfl T.c__DIGITS ⟨_, rfl⟩) pa_nil)))) (pg_name (i := 2) sc_read_natural.nd rfl (.inl rfl))
      (pss_cons (ps_set (i := 3) sc_read_natural.nd rfl (.inl rfl) (pe_slice sl_str (pv 0) (po_some (pv 2)) (po_some (pe_op op_add (pv 2) (pe_glob (v := .int 4000) rfl T.c__DIGITS ⟨_, rfl⟩)))))
      (pss_one (ps_set (i := 1) sc_read_natural.nd rfl (.inl rfl) (pe_op op_add (pe_op op_mul (pv 1) (callG (ok_to_power T) (hr.mono (by decide)) (by rfl) T.g_to_power T.F_to_power.kp (b_to_power T) .nil pass0 (pa_cons pe_int (pa_cons (pe_callB call_len_str (by rfl) T.z_len bt_len (pa_cons (pv 3) pa_nil)) pa_nil)))) (pe_callTy call_int_str (by rfl) T.z_int bt_int (pa_cons (pv 3) pa_nil)))))))
    (pss_one (ps_ret (pv 1))))))), ?_⟩
    have tst := et_or (a := !(Txt.isascii (S l))) (b := !(Txt.isdigit (S l))) (σ := [some (.str (S l)), none, none, none]) (H := H) (et_not (et_B (ev_t0 (ta := tVar 0) (g := fun a => .bl (Txt.isascii a)) (ev_var rfl)))) fun _ => et_not (et_B (ev_t0 (ta := tVar 0) (g := fun a => .bl (Txt.isdigit a)) (ev_var rfl)))
    rw [asc_dig] at tst
    by_cases hg : (decide (0 < l.length) && l.all dg) = true
    · rw [hg] at tst
      refine q_when tst (fun h => nomatch h) fun _ H1 e1 => ?_
      rw [Bool.and_eq_true] at hg
      have h0 : 0 < l.length := of_decide_eq_true hg.1
      have ne : l ≠ [] := fun z => by rw [z] at h0; cases h0
      have tst2 := et_and (a := l.take 1 == [48]) (b := !decide (V.str (S l) = V.str (S [48]))) (σ := [some (.str (S l)), none, none, none]) (H := H1) (et_is (et_B (ev_t1 (ta := tVar 0) (tb := tC (.str "0")) (g := fun a b => .bl (Txt.startswith a b)) (ev_var rfl) ev_c)) (starts_S l [48])) fun _ => et_test (ev_op (ta := tVar 0) (tb := tC (.str "0")) (ev_var rfl) ev_c (rv_ne rfl))
      have es : (V.str (S l) = V.str (S [48])) ↔ l = [48] := ⟨fun z => S_inj (V.str.inj z), fun z => by rw [z]⟩
      by_cases hz : l.take 1 = [48] ∧ l ≠ [48]
      · have eb : ((l.take 1 == [48]) && !decide (V.str (S l) = V.str (S [48]))) = true := by
          rw [hz.1, decide_eq_false (fun z => hz.2 (es.mp z))]
          rfl
        rw [eb] at tst2
        refine q_when tst2 (fun _ H2 e2 => ?_) (fun h => nomatch h)
        have en : natT l = none := by
          unfold natT
          rw [if_neg fun c => hz.2 (c.2.2 hz.1)]
        rw [en] at q
        exact s_ret ev_c fun H3 e3 => q H3 ((e1.trans e2).trans e3)
      · have eb : ((l.take 1 == [48]) && !decide (V.str (S l) = V.str (S [48]))) = false := by
          by_cases h1 : l.take 1 = [48]
          · have h2 : l = [48] := Classical.byContradiction fun z => hz ⟨h1, z⟩
            rw [h2]
            rfl
          · rw [show (l.take 1 == [48]) = false from beq_eq_false_iff_ne.mpr h1]
            rfl
        rw [eb] at tst2
        refine q_when tst2 (fun h => nomatch h) fun _ H2 e2 => ?_
        have en : natT l = some (NumText.digitsVal l) := by
          unfold natT
          rw [if_pos ⟨hg.2, ne, fun h1 => Classical.byContradiction fun z => hz ⟨h1, z⟩⟩]
        have iv := natT_val en (by omega)
        rw [en] at q
        refine q_asg ev_c fun H3 e3 => ?_
        refine q_forR3G (lo := 0) (j := (l.length : Int)) (c := 4000) (ea_cons ev_c (ea_cons (ev_is (ev_lenS (a := S l) (ev_var rfl) (slen l (by omega))) (by rw [S_len])) (ea_cons ev_c ea_nil))) (by omega) (by omega) (by omega) (by omega) (by omega) (by omega)
          (fun k σ' H' => ∃ y2 y3, σ' = [some (.str (S l)), some (.int (if k = 0 then 0 else ((NumText.digitsVal l : Nat) : Int))), y2, y3] ∧ Ex H H') ?_ ?_ ?_
        · intro H4 e4
          exact ⟨_, _, rfl, ((e1.trans e2).trans e3).trans e4⟩
        · rintro k σ' H' hk ⟨y2, y3, rfl, e⟩
          have k0 : k = 0 := by omega
          subst k0
          refine q_asg (v := .str (S l)) (ev_is (ev_slS (ev_var rfl) (eo_some (ev_var rfl)) (eo_some (ev_op (ev_var rfl) ev_c rv_I0)) (by rw [S_len]; show _ ≤ 2 ^ 24; omega)) ?_) fun H4 e4 => ?_
          · have e0 : (0 : Int) + ((0 : Nat) : Int) * 4000 = ((0 : Nat) : Int) := rfl
            rw [e0]
            have e1 : ((0 : Nat) : Int) + 4000 = ((4000 : Nat) : Int) := rfl
            rw [e1, cut_both, List.drop_zero, List.take_of_length_le (by omega)]
          refine s_asg (v := .int ((NumText.digitsVal l : Nat) : Int)) (ev_is (ev_op (ev_op (ev_var rfl) (ev_call (ea_cons ev_c (ea_cons (ev_is (ev_lenS (a := S l) (ev_var rfl) (slen l (by omega))) (by rw [S_len])) ea_nil)) (v_to_powerW (b := 10) (k := l.length) fun j hj => pow10_lt (by omega))) (rv_I (.inl (by show -(2 ^ 64) < (0 : Int) ∧ (0 : Int) < 2 ^ 64; decide)))) (ev_intS (ev_var rfl) iv (by rw [S_len]; omega)) rv_I0) ?_) fun H5 e5 => ?_
          · show V.int (0 * _ + _) = _
            rw [Int.zero_mul, Int.zero_add]
          · exact ⟨_, _, rfl, (e.trans e4).trans e5⟩
        · rintro k σ' H' hk ⟨y2, y3, rfl, e⟩
          have k0 : k ≠ 0 := by
            rintro rfl
            omega
          rw [if_neg k0]
          exact s_ret (ev_var rfl) fun H4 e4 => q H4 (e.trans e4)
    · rw [Bool.not_eq_true] at hg
      rw [hg] at tst
      refine q_when tst (fun _ H1 e1 => ?_) (fun h => nomatch h)
      have en : natT l = none := by
        unfold natT
        rw [if_neg fun c => ?_]
        have h0 : 0 < l.length := List.length_pos_iff.mpr c.2.1
        rw [c.1, decide_eq_true h0] at hg
        cases hg
      rw [en] at q
      exact s_ret ev_c fun H2 e2 => q H2 (e1.trans e2)
/-! ### _law_one_ofS -/
theorem ew_ixS {σ : L2.St} {H : Hp} {tl ti : TE} {a : Addr} {d : Nat} {P P1 : V → Prop} {l : List Nat} (hl : Ev tl σ (hid a H) (.str (S l))) (h16 : l.length ≤ 16000000) (hi : EvW a d ti σ H P) (hP : ∀ v, P v → ∃ (i : Int) (c : Nat), v = .int i ∧ atI l i = some c ∧ P1 (.str (S [c]))) : EvW a d (tOp rIxS tl ti) σ H P1 := fun n H1 b w l1 Q q =>
  hl H1 (ex_hid b) _ fun H2 e2 => hi n H2 (b.trans (But.ex e2)) (w.ex e2) l1 _ fun v H3 b3 w3 pv => by
    obtain ⟨i, c, rfl, hx, px⟩ := hP v pv
    exact ⟨S l, i, c, rfl, rfl, by rw [S_len]; show _ ≤ 2 ^ 24; omega, hx, q _ H3 ((But.ex e2).trans b3) w3 px⟩
def sp_law_one_ofS (K : PySem.W.Frag) : Sp := fun vs H Q _ => ∃ (a : Addr) (l : List Nat) (n : Nat), vs = [.ref a, .str (S l)] ∧ Well H a n ∧ n + 1 ≤ 2 ^ 50 ∧ 0 < l.length ∧ l.length ≤ 1000 ∧ ∀ c H2, c ∈ l → But a H H2 → Well H2 a (n + 1) → Q (.str (S [c])) H2
theorem ok_law_one_ofS (T : Txt K mg) : FnG PP w K mg base CX0 2 T.a_law_one_of T.d_law_one_of ["well", "some"] (sp_law_one_ofS K) := by
  refine okG T.F_law_one_of sc_law_one_of (fun vs H Q E h => ?_) (fun cdv A out s H vs Q E hr h => ?_)
  · obtain ⟨a, l, n, rfl, hw, hn, h0, h1, q⟩ := h
    rfl
  · obtain ⟨a, l, n, rfl, hw, hn, h0, h1, q⟩ := h
    refine ⟨_, (pss_one (ps_ret (pe_ix ix_str (pv 1) (callG (ok_law_pull T) (hr.mono (by decide)) (by rfl) T.g_law_pull T.F_law_pull.kp (b_law_pull T) .nil pass0 (pa_cons (pv 0) (pa_cons (pe_callB call_len_str (by rfl) T.z_len bt_len (pa_cons (pv 1) pa_nil)) pa_nil))) (fun _ _ => rfl)))), ?_⟩
    refine sw_ret (ew_ixS (l := l) (P := fun v => ∃ r : Int, v = .int r ∧ 0 ≤ r ∧ r < l.length) (P1 := fun v => ∃ c, v = .str (S [c]) ∧ c ∈ l) (ev_var rfl) (by omega) (ew_drawC (m := (l.length : Int)) rfl (ev_is (ev_lenS (ev_var rfl) (by rw [S_len]; show _ ≤ 2 ^ 24; omega)) (by rw [S_len])) (by omega) (lt8000 (Int.lt_of_le_of_lt (show (l.length : Int) ≤ 1000 by omega) (by decide)))) ?_) hw (by omega) fun v H1 b1 w1 hv => ?_
    · rintro v ⟨r, rfl, r0, r1⟩
      obtain ⟨k, rfl⟩ : ∃ k : Nat, r = k := ⟨r.toNat, by omega⟩
      have hk : k < l.length := by omega
      exact ⟨_, l[k], rfl, atI_nat (List.getElem?_eq_getElem hk), _, rfl, List.getElem_mem hk⟩
    · obtain ⟨c, rfl, hc⟩ := hv
      exact q c H1 hc b1 w1
/-! ### _law_term_text -/
def sp_law_term_text (K : PySem.W.Frag) : Sp := fun vs H Q _ => ∃ (a : Addr) (t : Tm), vs = [.ref a] ∧ SqT K H a (tv t) ∧ TmN t ∧ RetV (.str (S (tmT t))) H Q
theorem v_law_term_text {K : PySem.W.Frag} {H : Hp} {a : Addr} {t : Tm} (h : SqT K H a (tv t)) (ok : TmN t) : SpV (sp_law_term_text K) [.ref a] H (.str (S (tmT t))) := fun H1 e Q q E => ⟨a, t, rfl, ex_t e h, ok, q⟩
theorem ok_law_term_text (T : Txt K mg) : FnG PP w K mg base CX0 2 T.a_law_term_text T.d_law_term_text ["term"] (sp_law_term_text K) := by
  refine okG T.F_law_term_text sc_law_term_text (fun vs H Q E h => ?_) (fun cdv A out s H vs Q E hr h => ?_)
  · obtain ⟨a, ⟨w, c, z⟩, rfl, hT, ok, q⟩ := h
    rfl
  · obtain ⟨a, ⟨w, c, z⟩, rfl, hT, ok, q⟩ := h
    refine ⟨_, (pss_cons (ps_asg (pv 0) (pg_tup rfl (pgs_cons (pg_name (i := 1) sc_law_term_text.nd rfl (.inl rfl)) (pgs_cons (pg_name (i := 2) sc_law_term_text.nd rfl (.inl rfl)) (pgs_cons (pg_name (i := 3) sc_law_term_text.nd rfl (.inl rfl)) pgs_nil)))))
    (pss_cons (ps_if (pt_cmpR op_eq (pv 1) pe_str (nomark _))
      (pss_one (ps_ret (pe_op op_add_str (pe_op op_add_str (pe_op op_add_str (callG (ok_law_bracketed T) (hr.mono (by decide)) (by rfl) T.g_law_bracketed T.F_law_bracketed.kp (b_law_bracketed T) .nil pass0 (pa_cons (pv 2) pa_nil)) pe_str) (callG (ok_law_bracketed T) (hr.mono (by decide)) (by rfl) T.g_law_bracketed T.F_law_bracketed.kp (b_law_bracketed T) .nil pass0 (pa_cons (pv 3) pa_nil))) pe_str)))
      pss_nil)
    (pss_one (ps_ret (pe_op op_add_str (pe_op op_add_str (callG (ok_law_bracketed T) (hr.mono (by decide)) (by rfl) T.g_law_bracketed T.F_law_bracketed.kp (b_law_bracketed T) .nil pass0 (pa_cons (pv 2) pa_nil)) (pe_ifExp (pt_cmpR op_eq (pv 1) pe_str (nomark _)) pe_str pe_str)) (pe_callTy call_str_int (by rfl) T.z_str bt_str (pa_cons (pv 3) pa_nil))))))), ?_⟩
    have hc : NumOk c := ok.c
    have hz : NumOk z := ok.z
    have bc := br_len hc
    have bz := br_len hz
    have nz := num_len hz
    have w2 : w < 3 := ok.w2
    refine q_tup3 (ev_var rfl) hT fun H1 e1 => ?_
    match w, w2 with
    | 0, _ =>
      refine q_when (b := true) (et_is (et_test (ev_op (ev_var rfl) ev_c rv_eqS)) (by rfl)) (fun _ H2 e2 => ?_) (fun h => nomatch h)
      exact s_ret (ev_addT (a := brT c ++ [32, 42, 32] ++ brT z) (b := [32, 94, 32, 110]) (ev_addT (ev_addT (b := [32, 42, 32]) (ev_call (ea_cons (ev_var rfl) ea_nil) (v_law_bracketed (n := c) hc)) ev_c (by ((try simp only [List.length_append, List.length_cons, List.length_nil]); omega))) (ev_call (ea_cons (ev_var rfl) ea_nil) (v_law_bracketed (n := z) hz)) (by ((try simp only [List.length_append, List.length_cons, List.length_nil]); omega))) ev_c (by ((try simp only [List.length_append, List.length_cons, List.length_nil]); omega))) fun H3 e3 => q H3 ((e1.trans e2).trans e3)
    | 1, _ =>
      refine q_when (b := false) (et_is (et_test (ev_op (ev_var rfl) ev_c rv_eqS)) (by rfl)) (fun h => nomatch h) fun _ H2 e2 => ?_
      exact s_ret (ev_addT (a := brT c ++ [32, 42, 32, 114, 105, 110, 103, 32]) (ev_addT (b := [32, 42, 32, 114, 105, 110, 103, 32]) (ev_call (ea_cons (ev_var rfl) ea_nil) (v_law_bracketed (n := c) hc)) (ev_if (b := true) (et_is (et_test (ev_op (ev_var rfl) ev_c rv_eqS)) (by rfl)) (fun _ => ev_c) (fun h => nomatch h)) (by ((try simp only [List.length_append, List.length_cons, List.length_nil]); omega))) (ev_strO (ev_var rfl) hz) (by ((try simp only [List.length_append, List.length_cons, List.length_nil]); omega))) fun H3 e3 => q H3 ((e1.trans e2).trans e3)
    | 2, _ =>
      refine q_when (b := false) (et_is (et_test (ev_op (ev_var rfl) ev_c rv_eqS)) (by rfl)) (fun h => nomatch h) fun _ H2 e2 => ?_
      exact s_ret (ev_addT (a := brT c ++ [32, 42, 32, 110, 32, 94, 32]) (ev_addT (b := [32, 42, 32, 110, 32, 94, 32]) (ev_call (ea_cons (ev_var rfl) ea_nil) (v_law_bracketed (n := c) hc)) (ev_if (b := false) (et_is (et_test (ev_op (ev_var rfl) ev_c rv_eqS)) (by rfl)) (fun h => nomatch h) (fun _ => ev_c)) (by ((try simp only [List.length_append, List.length_cons, List.length_nil]); omega))) (ev_strO (ev_var rfl) hz) (by ((try simp only [List.length_append, List.length_cons, List.length_nil]); omega))) fun H3 e3 => q H3 ((e1.trans e2).trans e3)
    | w + 3, h => exact absurd h (by omega)
/-! ### _law_number_of -/
def sp_law_number_of (K : PySem.W.Frag) : Sp := fun vs H Q _ => ∃ l : List Nat, vs = [.str (S l)] ∧ l.length ≤ 640 ∧ okS l ∧ RetV (optI (wholeT l)) H Q
theorem v_number_of {K : PySem.W.Frag} {H : Hp} {l : List Nat} (h : l.length ≤ 640) (ok : okS l) : SpV (sp_law_number_of K) [.str (S l)] H (optI (wholeT l)) := fun H1 e Q q E => ⟨l, rfl, h, ok, q⟩
theorem ok_law_number_of (T : Txt K mg) : FnG PP w K mg base CX0 2 T.a_law_number_of T.d_law_number_of ["part"] (sp_law_number_of K) := by
  refine okG T.F_law_number_of sc_law_number_of (fun vs H Q E h => ?_) (fun cdv A out s H vs Q E hr h => ?_)
  · obtain ⟨l, rfl, hl, ok, q⟩ := h
    rfl
  · obtain ⟨l, rfl, hl, ok, q⟩ := h
    refine ⟨_, (pss_cons (ps_if (pt_cmpR op_ne (pe_slice sl_str (pv 0) po_none (po_some pe_int)) pe_str (nomark _))
      (pss_one (ps_ret (callG (ok_law_digits_of T) (hr.mono (by decide)) (by rfl) T.g_law_digits_of T.F_law_digits_of.kp (b_law_digits_of T) .nil pass0 (pa_cons (pv 0) pa_nil))))
      pss_nil)
    (pss_cons (ps_set (i := 1) sc_law_number_of.nd rfl (.inl rfl) (callG (ok_law_digits_of T) (hr.mono (by decide)) (by rfl) T.g_law_digits_of T.F_law_digits_of.kp (b_law_digits_of T) .nil pass0 (pa_cons (pe_slice sl_str (pv 0) (po_some pe_int) po_none) pa_nil)))
    (pss_one (ps_ret (pe_ifExp (PW.pt (pw_or (pt_cmpR op_isN (pv 1) pe_non (nomark _)) (pw_or1 (pt_cmpR op_eq (pv 1) pe_int (nomark _))))) pe_non (pe_un un_neg (pv 1))))))), ?_⟩
    have l24 : (S l).length ≤ sizeLine := by rw [S_len]; show _ ≤ 2 ^ 24; omega
    have tst : EvT (tTest (tOp rNe (tSl L2.rSlS (tVar 0) tNoPart (tPart (tC (.int 1)))) (tC (.str "-")))) [some (.str (S l)), none] H (!decide (l.take 1 = [45])) := et_is (et_test (ev_op (ev_is (ev_slS (ev_var rfl) eo_none (eo_some ev_c) l24) (congrArg V.str (cut_to l 1))) ev_c (rv_ne rfl))) (congrArg Bool.not (V_dec (l.take 1) [45]))
    by_cases h1 : l.take 1 = [45]
    · rw [decide_eq_true h1] at tst
      refine q_when tst (fun h => nomatch h) fun _ H1 e1 => ?_
      refine q_asg (v := optN (natT (l.drop 1))) (ev_call (ea_cons (ev_is (ev_slS (ev_var rfl) (eo_some ev_c) eo_none l24) (congrArg V.str (cut_from l 1))) ea_nil) (v_digits (by rw [List.length_drop]; omega) (okS_drop ok 1))) fun H2 e2 => ?_
      have ew : wholeT l = (match natT (l.drop 1) with | some n => if n = 0 then none else some (-(n : Int)) | none => none) := by
        unfold wholeT
        exact if_pos h1
      rw [ew] at q
      have e12 := e1.trans e2
      cases en : natT (l.drop 1) with
      | none =>
        rw [en] at q
        exact s_ret (ev_if (b := true) (et_or (a := true) (b := true) (et_is (et_test (ev_op (ev_var rfl) ev_c rv_isN)) rfl) (fun h => nomatch h)) (fun _ => ev_c) (fun h => nomatch h)) fun H3 e3 => q H3 (e12.trans e3)
      | some n =>
        rw [en] at q
        by_cases n0 : n = 0
        · subst n0
          exact s_ret (ev_if (b := true) (et_or (a := false) (b := true) (et_is (et_test (ev_op (ev_var rfl) ev_c rv_isN)) rfl) fun _ => et_is (et_test (ev_op (ev_var rfl) ev_c (rv_eq rfl))) rfl) (fun _ => ev_c) (fun h => nomatch h)) fun H3 e3 => q H3 (e12.trans e3)
        · have q' : RetV (optI (some (-(n : Int)))) H Q := by
            have := q
            simp only [if_neg n0] at this
            exact this
          exact s_ret (ev_if (b := false) (et_or (a := false) (b := false) (et_is (et_test (ev_op (ev_var rfl) ev_c rv_isN)) rfl) fun _ => et_is (et_test (ev_op (ev_var rfl) ev_c (rv_eq rfl))) (decide_eq_false fun z => n0 (by have := V.int.inj z; omega))) (fun h => nomatch h) (fun _ => ev_neg (ev_var rfl))) fun H3 e3 => q' H3 (e12.trans e3)
    · rw [decide_eq_false h1] at tst
      refine q_when tst (fun _ H1 e1 => ?_) (fun h => nomatch h)
      have ew : optI (wholeT l) = optN (natT l) := by
        unfold wholeT
        rw [if_neg h1]
        cases natT l <;> rfl
      rw [ew] at q
      exact s_ret (ev_call (ea_cons (ev_var rfl) ea_nil) (v_digits hl ok)) fun H3 e3 => q H3 (e1.trans e3)
/-! ### is_term -/
theorem kb_int_tuple : kitB "int" "tuple" = some false := by decide +kernel
theorem kb_none_tuple : kitB "NoneType" "tuple" = some false := by decide +kernel
theorem kb_bool_tuple : kitB "bool" "tuple" = some false := by decide +kernel
theorem kb_str_tuple : kitB "str" "tuple" = some false := by decide +kernel
theorem kb_list_tuple : kitB "list" "tuple" = some false := by decide +kernel
theorem kb_dict_tuple : kitB "dict" "tuple" = some false := by decide +kernel
theorem kb_int_str : kitB "int" "str" = some false := by decide +kernel
theorem kb_none_str : kitB "NoneType" "str" = some false := by decide +kernel
theorem kb_bool_str : kitB "bool" "str" = some false := by decide +kernel
theorem kb_list_str : kitB "list" "str" = some false := by decide +kernel
theorem kb_tuple_str : kitB "tuple" "str" = some false := by decide +kernel
theorem kb_dict_str : kitB "dict" "str" = some false := by decide +kernel
def sp_is_term (K : PySem.W.Frag) : Sp := fun vs H Q _ => ∃ (x : V) (b : Bool), vs = [x] ∧ JT K H x b ∧ RetV (.bl b) H Q
theorem JT.ex {H H' : Hp} {x : V} {b : Bool} (h : JT K H x b) (e : Ex H H') : JT K H' x b := by
  rcases h with ⟨a, kd, cv, zv, co, zo, rfl, h1, h2, h3, rfl⟩ | ⟨rfl, h | h | h | h | ⟨a, xs, h, g⟩ | ⟨a, kvs, h, g⟩ | ⟨a, xs, h, g, n⟩ | ⟨a, k, c, z, h, g, n⟩⟩
  · exact .inl ⟨a, kd, cv, zv, co, zo, rfl, ex_t e h1, h2.ex e, h3.ex e, rfl⟩
  · exact .inr ⟨rfl, .inl h⟩
  · exact .inr ⟨rfl, .inr (.inl h)⟩
  · exact .inr ⟨rfl, .inr (.inr (.inl h))⟩
  · exact .inr ⟨rfl, .inr (.inr (.inr (.inl h)))⟩
  · exact .inr ⟨rfl, .inr (.inr (.inr (.inr (.inl ⟨a, xs, h, ex_l e g⟩))))⟩
  · exact .inr ⟨rfl, .inr (.inr (.inr (.inr (.inr (.inl ⟨a, kvs, h, e _ _ g⟩)))))⟩
  · exact .inr ⟨rfl, .inr (.inr (.inr (.inr (.inr (.inr (.inl ⟨a, xs, h, ex_t e g, n⟩))))))⟩
  · refine .inr ⟨rfl, .inr (.inr (.inr (.inr (.inr (.inr (.inr ⟨a, k, c, z, h, ex_t e g, ?_⟩))))))⟩
    rcases n with n | n | n | ⟨b, xs, n, g⟩ | ⟨b, xs, n, g⟩
    · exact .inl n
    · exact .inr (.inl n)
    · exact .inr (.inr (.inl n))
    · exact .inr (.inr (.inr (.inl ⟨b, xs, n, ex_l e g⟩)))
    · exact .inr (.inr (.inr (.inr ⟨b, xs, n, ex_t e g⟩)))
theorem v_is_termJ {H : Hp} {x : V} {b : Bool} (h : JT K H x b) : SpV (sp_is_term K) [x] H (.bl b) := fun H1 e Q q E => ⟨x, b, rfl, h.ex e, q⟩
theorem v_is_term {H : Hp} {a : Addr} {t : Tm} (h : SqT K H a (tv t)) (ok : TmOk t) : SpV (sp_is_term K) [.ref a] H (.bl true) := by
  have := v_is_termJ (jt_tm h)
  rwa [(tmB_iff ok.w2).mpr ok] at this
theorem ok_is_term (T : Txt K mg) : FnG PP w K mg base CX0 3 T.a_is_term T.d_is_term ["value"] (sp_is_term K) := by
  refine okG T.F_is_term sc_is_term (fun vs H Q E h => ?_) (fun cdv A out s H vs Q E hr h => ?_)
  · obtain ⟨x, b, rfl, hx, q⟩ := h
    rfl
  · obtain ⟨x, b, rfl, hx, q⟩ := h
    refine ⟨_, (pss_cons (ps_if (PW.pt (pw_or (pt_not (pt_val (pe_callB (call_isiK' (K := K) rfl) (by rfl) T.z_isinstance bt_isinstance (pa_cons (pv 0) (pa_cons (pe_bltn (v := .ty "tuple") (by rfl) T.z_tuple bt_tuple rfl) pa_nil))))) (pw_or1 (pt_cmpR op_ne (pe_callB (call_lenK (K := K) rfl) (by rfl) T.z_len bt_len (pa_cons (pv 0) pa_nil)) pe_int (nomark _)))))
      (pss_one (ps_ret pe_bl))
      pss_nil)
    (pss_cons (ps_asg (pv 0) (pg_tup rfl (pgs_cons (pg_name (i := 1) sc_is_term.nd rfl (.inr rfl)) (pgs_cons (pg_name (i := 2) sc_is_term.nd rfl (.inl rfl)) (pgs_cons (pg_name (i := 3) sc_is_term.nd rfl (.inr rfl)) pgs_nil)))))
    (pss_cons (ps_if (PW.pt (pw_or (pt_not (pt_val (pe_callB (call_isiK' (K := K) rfl) (by rfl) T.z_isinstance bt_isinstance (pa_cons (pv 1) (pa_cons (pe_bltn (v := .ty "str") (by rfl) T.z_str bt_str rfl) pa_nil))))) (pw_or1 (pt_not (pt_val (callG (ok_is_from_to T) (hr.mono (by decide)) (by rfl) T.g_is_from_to T.F_is_from_to.kp (b_is_from_to T) .nil pass0 (pa_cons (pv 2) (pa_cons (pe_un un_neg (pe_glob (v := .int 1000000) rfl T.c_MOST_COUNT ⟨_, rfl⟩)) (pa_cons (pe_glob (v := .int 1000000) rfl T.c_MOST_COUNT ⟨_, rfl⟩) pa_nil)))))))))
      (pss_one (ps_ret pe_bl))
      pss_nil)
    (pss_one (ps_ret (pe_callB (cr_anyK (K := K) rfl rfl) (by rfl) T.z_any bt_any (pa_cons (pe_lc (own := [("name", 4), ("least", 5), ("most", 6)]) (g := gTup K 3 (gCons (gName 4) (gCons (gName 5) (gCons (gName 6) gNil)))) rfl sc_is_term.nd (pi_tupK (K := K) rfl (pe_glob (v := .ref T.a_KINDS) rfl T.g_KINDS rfl)) (blkOk_by (own := [("name", 4), ("least", 5), ("most", 6)]) (N := ["value", "kind", "count", "size", "name", "least", "most"]) (sc := defScope s_is_term) (by decide +kernel)) (fun _ _ _ _ _ => (pg_tup rfl (pgs_cons (pg_name (i := 4) sc_is_term.nd rfl (Or.inl rfl)) (pgs_cons (pg_name (i := 5) sc_is_term.nd rfl (Or.inl rfl)) (pgs_cons (pg_name (i := 6) sc_is_term.nd rfl (Or.inl rfl)) pgs_nil))))) (fun _ _ _ _ _ => pts_nil) (fun _ _ _ _ _ => (pe_and (pe_cmpR op_eq (pv 1) (pv 4) (nomark _)) (pe_one (callG (ok_is_from_to T) (hr.mono (by decide)) (by rfl) T.g_is_from_to T.F_is_from_to.kp (b_is_from_to T) .nil pass0 (pa_cons (pv 3) (pa_cons (pv 5) (pa_cons (pv 6) pa_nil)))))))) pa_nil))))))), ?_⟩
    rcases hx with ⟨a, kd, cv, zv, co, zo, rfl, hT, nc, nz, rfl⟩ | ⟨rfl, ⟨m, rfl⟩ | rfl | ⟨c, rfl⟩ | ⟨s, rfl⟩ | ⟨a, xs, rfl, g⟩ | ⟨a, kvs, rfl, g⟩ | ⟨a, xs, rfl, g, n3⟩ | ⟨a, k, c, z, rfl, g, hk⟩⟩
    · refine q_when (b := false) (et_or (a := false) (b := false) (et_not (a := true) (et_B (ev_isi (ev_var rfl) (fun H1 e => ty_seqt (ex_t e hT)) kb_tuple_tuple))) fun _ => et_is (et_test (ev_op (ev_lenT (ev_var rfl) hT) ev_c (rv_ne rfl))) rfl) (fun h => nomatch h) fun _ H1 e1 => ?_
      refine q_tup3 (ev_var rfl) (ex_t e1 hT) fun H2 e2 => ?_
      have e12 := e1.trans e2
      have tst := et_or (a := false) (b := !(inZ co (-1000000) 1000000)) (σ := [some (.ref a), some (.str kd), some cv, some zv, none, none, none]) (H := H2) (et_not (a := true) (et_B (ev_isi (K := K) (ta := tVar 1) (ev_var rfl) (fun H1 e => .base (.str _)) kb_str_str))) fun _ => et_not (et_B (ev_call (E := E0) (ea_cons (ta := tVar 2) (ev_var rfl) (ea_cons (ev_neg (ta := tC (.int 1000000)) ev_c) (ea_cons (ta := tC (.int 1000000)) ev_c ea_nil))) (v_is_from_toN (K := K) (nc.ex e12))))
      rw [Bool.false_or] at tst
      cases hc : inZ co (-1000000) 1000000 with
      | false =>
        rw [hc] at tst
        have eb : tmB kd co zo = false := by
          unfold tmB
          rw [hc]
          rfl
        rw [eb] at q
        exact q_when tst (fun _ H3 e3 => s_ret ev_c fun H4 e4 => q H4 ((e12.trans e3).trans e4)) (fun h => nomatch h)
      | true =>
        rw [hc] at tst
        refine q_when tst (fun h => nomatch h) fun _ H3 e3 => ?_
        have eb : tmB kd co zo = ([decide (kd = ("power" : Str)) && inZ zo (-40) 40, decide (kd = ("ring" : Str)) && inZ zo 1 300, decide (kd = ("places" : Str)) && inZ zo 1 6].any id) := by
          unfold tmB
          rw [hc]
          simp
        rw [eb] at q
        replace nz := nz.ex e12
        have h3 : ∀ (n : Nat) (x : V), ([.ref T.a_KINDS_0, .ref T.a_KINDS_1, .ref T.a_KINDS_2] : List V)[n]? = some x → ∃ t p, x = .ref t ∧ ([(.str "power", .int (-40), .int 40), (.str "ring", .int 1, .int 300), (.str "places", .int 1, .int 6)] : List (V × V × V))[n]? = some p ∧ SqT K H3 t [p.1, p.2.1, p.2.2] := fun n x hx => match n, hx with
          | 0, hx => by cases hx; exact ⟨_, _, rfl, rfl, T.q_KINDS_0.sq⟩
          | 1, hx => by cases hx; exact ⟨_, _, rfl, rfl, T.q_KINDS_1.sq⟩
          | 2, hx => by cases hx; exact ⟨_, _, rfl, rfl, T.q_KINDS_2.sq⟩
          | n + 3, hx => by cases hx
        refine s_ret (ev_anyN (bs := [decide (kd = ("power" : Str)) && inZ zo (-40) 40, decide (kd = ("ring" : Str)) && inZ zo 1 300, decide (kd = ("places" : Str)) && inZ zo 1 6]) (el_is (el_lcT3 (fun n => match n with | 0 => V.bl (decide (kd = ("power" : Str)) && inZ zo (-40) 40) | 1 => V.bl (decide (kd = ("ring" : Str)) && inZ zo 1 300) | _ => V.bl (decide (kd = ("places" : Str)) && inZ zo 1 6)) [(.str "power", .int (-40), .int 40), (.str "ring", .int 1, .int 300), (.str "places", .int 1, .int 6)] ev_c T.q_KINDS.sq (by show 3 ≤ 40000; decide) h3 (fun _ _ _ => rfl) (fun n p H4 e hp => ?_)) rfl)) fun H4 e4 => q H4 ((e12.trans e3).trans e4)
        match n, hp with
        | 0, hp =>
          cases hp
          refine ev_is (ev_andV (a := decide (kd = ("power" : Str))) (b := inZ zo (-40) 40) (ev_op (ev_var rfl) (ev_var rfl) rv_eqS) fun _ => ev_call (ea_cons (ev_var rfl) (ea_cons (ev_var rfl) (ea_cons (ev_var rfl) ea_nil))) (v_is_from_toN (nz.ex (e3.trans e)))) rfl
        | 1, hp =>
          cases hp
          refine ev_is (ev_andV (a := decide (kd = ("ring" : Str))) (b := inZ zo (1) 300) (ev_op (ev_var rfl) (ev_var rfl) rv_eqS) fun _ => ev_call (ea_cons (ev_var rfl) (ea_cons (ev_var rfl) (ea_cons (ev_var rfl) ea_nil))) (v_is_from_toN (nz.ex (e3.trans e)))) rfl
        | 2, hp =>
          cases hp
          refine ev_is (ev_andV (a := decide (kd = ("places" : Str))) (b := inZ zo (1) 6) (ev_op (ev_var rfl) (ev_var rfl) rv_eqS) fun _ => ev_call (ea_cons (ev_var rfl) (ea_cons (ev_var rfl) (ea_cons (ev_var rfl) ea_nil))) (v_is_from_toN (nz.ex (e3.trans e)))) rfl
        | n + 3, hp => cases hp
    · exact q_when (b := true) (et_or (a := true) (b := true) (et_not (a := false) (et_B (ev_isi (ev_var rfl) (fun H1 e => .base (.int m)) kb_int_tuple))) (fun h => nomatch h)) (fun _ H1 e1 => s_ret ev_c fun H2 e2 => q H2 (e1.trans e2)) (fun h => nomatch h)
    · exact q_when (b := true) (et_or (a := true) (b := true) (et_not (a := false) (et_B (ev_isi (ev_var rfl) (fun H1 e => .base .non) kb_none_tuple))) (fun h => nomatch h)) (fun _ H1 e1 => s_ret ev_c fun H2 e2 => q H2 (e1.trans e2)) (fun h => nomatch h)
    · exact q_when (b := true) (et_or (a := true) (b := true) (et_not (a := false) (et_B (ev_isi (ev_var rfl) (fun H1 e => .base (.bl c)) kb_bool_tuple))) (fun h => nomatch h)) (fun _ H1 e1 => s_ret ev_c fun H2 e2 => q H2 (e1.trans e2)) (fun h => nomatch h)
    · exact q_when (b := true) (et_or (a := true) (b := true) (et_not (a := false) (et_B (ev_isi (ev_var rfl) (fun H1 e => .base (.str s)) kb_str_tuple))) (fun h => nomatch h)) (fun _ H1 e1 => s_ret ev_c fun H2 e2 => q H2 (e1.trans e2)) (fun h => nomatch h)
    · exact q_when (b := true) (et_or (a := true) (b := true) (et_not (a := false) (et_B (ev_isi (ev_var rfl) (fun H1 e => ty_seql (ex_l e g)) kb_list_tuple))) (fun h => nomatch h)) (fun _ H1 e1 => s_ret ev_c fun H2 e2 => q H2 (e1.trans e2)) (fun h => nomatch h)
    · exact q_when (b := true) (et_or (a := true) (b := true) (et_not (a := false) (et_B (ev_isi (ev_var rfl) (fun H1 e => .base (.dK (e _ _ g))) kb_dict_tuple))) (fun h => nomatch h)) (fun _ H1 e1 => s_ret ev_c fun H2 e2 => q H2 (e1.trans e2)) (fun h => nomatch h)
    · refine q_when (b := true) (et_or (a := false) (b := true) (et_not (a := true) (et_B (ev_isi (ev_var rfl) (fun H1 e => ty_seqt (ex_t e g)) kb_tuple_tuple))) fun _ => et_is (et_test (ev_op (ev_lenT (ev_var rfl) g) ev_c (rv_ne rfl))) ?_) (fun _ H1 e1 => s_ret ev_c fun H2 e2 => q H2 (e1.trans e2)) (fun h => nomatch h)
      rw [decide_eq_false fun z => n3 (by have := V.int.inj z; omega)]
      rfl
    · refine q_when (b := false) (et_or (a := false) (b := false) (et_not (a := true) (et_B (ev_isi (ev_var rfl) (fun H1 e => ty_seqt (ex_t e g)) kb_tuple_tuple))) fun _ => et_is (et_test (ev_op (ev_lenT (ev_var rfl) g) ev_c (rv_ne rfl))) rfl) (fun h => nomatch h) fun _ H1 e1 => ?_
      refine q_tup3 (ev_var rfl) (ex_t e1 g) fun H2 e2 => ?_
      have e12 := e1.trans e2
      rcases hk with ⟨m, rfl⟩ | rfl | ⟨c, rfl⟩ | ⟨b, xs, rfl, gk⟩ | ⟨b, xs, rfl, gk⟩
      · exact q_when (b := true) (et_or (a := true) (b := true) (et_not (a := false) (et_B (ev_isi (ev_var rfl) (fun H1 e => .base (.int m)) kb_int_str))) (fun h => nomatch h)) (fun _ H3 e3 => s_ret ev_c fun H4 e4 => q H4 ((e12.trans e3).trans e4)) (fun h => nomatch h)
      · exact q_when (b := true) (et_or (a := true) (b := true) (et_not (a := false) (et_B (ev_isi (ev_var rfl) (fun H1 e => .base .non) kb_none_str))) (fun h => nomatch h)) (fun _ H3 e3 => s_ret ev_c fun H4 e4 => q H4 ((e12.trans e3).trans e4)) (fun h => nomatch h)
      · exact q_when (b := true) (et_or (a := true) (b := true) (et_not (a := false) (et_B (ev_isi (ev_var rfl) (fun H1 e => .base (.bl c)) kb_bool_str))) (fun h => nomatch h)) (fun _ H3 e3 => s_ret ev_c fun H4 e4 => q H4 ((e12.trans e3).trans e4)) (fun h => nomatch h)
      · exact q_when (b := true) (et_or (a := true) (b := true) (et_not (a := false) (et_B (ev_isi (ev_var rfl) (fun H1 e => ty_seql (ex_l (e12.trans e) gk)) kb_list_str))) (fun h => nomatch h)) (fun _ H3 e3 => s_ret ev_c fun H4 e4 => q H4 ((e12.trans e3).trans e4)) (fun h => nomatch h)
      · exact q_when (b := true) (et_or (a := true) (b := true) (et_not (a := false) (et_B (ev_isi (ev_var rfl) (fun H1 e => ty_seqt (ex_t (e12.trans e) gk)) kb_tuple_str))) (fun h => nomatch h)) (fun _ H3 e3 => s_ret ev_c fun H4 e4 => q H4 ((e12.trans e3).trans e4)) (fun h => nomatch h)
/-! ### written -/
def sp_written (K : PySem.W.Frag) : Sp := fun vs H Q _ => ∃ n : Int, vs = [.int n] ∧ n.natAbs < 2 ^ 1900 ∧ RetV (.str (S (numT n))) H Q
theorem v_written {K : PySem.W.Frag} {H : Hp} {n : Int} (h : n.natAbs < 2 ^ 1900) : SpV (sp_written K) [.int n] H (.str (S (numT n))) := fun H1 e Q q E => ⟨n, rfl, h, q⟩
theorem ok_written (T : Txt K mg) : FnG PP w K mg base CX0 3 T.a_written T.d_written ["number"] (sp_written K) := by
  refine okG T.F_written sc_written (fun vs H Q E h => ?_) (fun cdv A out s H vs Q E hr h => ?_)
  · obtain ⟨n, rfl, hn, q⟩ := h
    rfl
  · obtain ⟨n, rfl, hn, q⟩ := h
    refine ⟨_, (pss_cons (ps_if (pt_cmpR op_lt (pv 0) pe_int (nomark _))
      (pss_one (ps_ret (pe_op op_add_str pe_str (callG (ok_written0 T) (hr.mono (by decide)) (by rfl) T.g_written T.F_written.kp (b_written T) .nil pass0 (pa_cons (pe_un un_neg (pv 0)) pa_nil)))))
      pss_nil)
    (pss_cons (ps_if (pt_cmpR op_le (pe_bits (pv 0)) (pe_glob (v := .int 14000) rfl T.c__BITS ⟨_, rfl⟩) (nomark _))
      (pss_one (ps_ret (pe_callTy call_str_int (by rfl) T.z_str bt_str (pa_cons (pv 0) pa_nil))))
      pss_nil)
    (pss_cons ps_never
    (pss_cons ps_never
    (pss_cons ps_never
    (pss_cons ps_never
    (pss_one ps_never))))))), ?_⟩
    by_cases h0 : n < 0
    · refine q_when (b := true) (et_test (ev_op (ev_var rfl) ev_c (rv_b (decide_eq_true h0)))) (fun _ H1 e1 => ?_) (fun h => nomatch h)
      have hm : (-n).natAbs < 2 ^ 1900 := by rw [Int.natAbs_neg]; exact hn
      exact s_ret (ev_is (ev_op ev_c (ev_call (ea_cons (ev_neg (ev_var rfl)) ea_nil) (v_written0 (by omega) hm)) (rv_addS (by show 1 + (S (numT (-n))).length ≤ 100000; rw [S_len]; have := numT_lt hm; omega))) (congrArg V.str (num_neg h0))) fun H2 e2 => q H2 (e1.trans e2)
    refine q_when (b := false) (et_test (ev_op (ev_var rfl) ev_c (rv_b (decide_eq_false h0)))) (fun h => nomatch h) fun _ H1 e1 => ?_
    refine q_when (b := true) (et_test (ev_op (ev_bits (ev_var rfl)) ev_c (rv_b (decide_eq_true (bits_num hn))))) (fun _ H2 e2 => ?_) (fun h => nomatch h)
    exact s_ret (ev_is (ev_strI (ev_var rfl) (log_num hn)) (congrArg V.str (str_num n))) fun H3 e3 => q H3 ((e1.trans e2).trans e3)
/-! ### read_whole -/
def sp_read_whole (K : PySem.W.Frag) : Sp := fun vs H Q _ => ∃ l : List Nat, vs = [.str (S l)] ∧ l.length ≤ 640 ∧ RetV (optI (wholeT l)) H Q
theorem v_read_whole {K : PySem.W.Frag} {H : Hp} {l : List Nat} (h : l.length ≤ 640) : SpV (sp_read_whole K) [.str (S l)] H (optI (wholeT l)) := fun H1 e Q q E => ⟨l, rfl, h, q⟩
theorem ok_read_whole (T : Txt K mg) : FnG PP w K mg base CX0 3 T.a_read_whole T.d_read_whole ["text"] (sp_read_whole K) := by
  refine okG T.F_read_whole sc_read_whole (fun vs H Q E h => ?_) (fun cdv A out s H vs Q E hr h => ?_)
  · obtain ⟨l, rfl, hl, q⟩ := h
    rfl
  · obtain ⟨l, rfl, hl, q⟩ := h
    refine ⟨_, (pss_cons (ps_if (pt_val (pe_m1 PySem.F.slot_str_startswith PySem.F.type_str_startswith mt_startswith1 (pv 0) pe_str))
      (pss_cons (ps_set (i := 1) sc_read_whole.nd rfl (.inl rfl) (callG (ok_read_natural T) (hr.mono (by decide)) (by rfl) T.g_read_natural T.F_read_natural.kp (b_read_natural T) .nil pass0 (pa_cons (pe_slice sl_str (pv 0) (po_some pe_int) po_none) pa_nil)))
      (pss_one (ps_ret (pe_ifExp (PW.pt (pw_or (pt_cmpR op_isN (pv 1) pe_non (nomark _)) (pw_or1 (pt_cmpR op_eq (pv 1) pe_int (nomark _))))) pe_non (pe_un un_neg (pv 1))))))
      pss_nil)
    (pss_one (ps_ret (callG (ok_read_natural T) (hr.mono (by decide)) (by rfl) T.g_read_natural T.F_read_natural.kp (b_read_natural T) .nil pass0 (pa_cons (pv 0) pa_nil))))), ?_⟩
    have tst := et_is (et_B (ev_t1 (σ := [some (.str (S l)), none]) (H := H) (ta := tVar 0) (tb := tC (.str "-")) (g := fun a b => .bl (Txt.startswith a b)) (ev_var rfl) ev_c)) (starts_S l [45])
    by_cases h1 : l.take 1 = [45]
    · rw [show (l.take [45].length == [45]) = true by show (l.take 1 == [45]) = true; rw [h1]; rfl] at tst
      refine q_when tst (fun _ H1 e1 => ?_) (fun h => nomatch h)
      refine q_asg (v := optN (natT (l.drop 1))) (ev_call (ea_cons (ev_is (ev_slS (ev_var rfl) (eo_some ev_c) eo_none (by rw [S_len]; show _ ≤ 2 ^ 24; omega)) (congrArg V.str (cut_from l 1))) ea_nil) (v_read_natural (by rw [List.length_drop]; omega))) fun H2 e2 => ?_
      have ew : wholeT l = (match natT (l.drop 1) with | some n => if n = 0 then none else some (-(n : Int)) | none => none) := by
        unfold wholeT
        exact if_pos h1
      rw [ew] at q
      have e12 := e1.trans e2
      cases en : natT (l.drop 1) with
      | none =>
        rw [en] at q
        exact s_ret (ev_if (b := true) (et_or (a := true) (b := true) (et_is (et_test (ev_op (ev_var rfl) ev_c rv_isN)) rfl) (fun h => nomatch h)) (fun _ => ev_c) (fun h => nomatch h)) fun H3 e3 => q H3 (e12.trans e3)
      | some n =>
        rw [en] at q
        by_cases n0 : n = 0
        · subst n0
          exact s_ret (ev_if (b := true) (et_or (a := false) (b := true) (et_is (et_test (ev_op (ev_var rfl) ev_c rv_isN)) rfl) fun _ => et_is (et_test (ev_op (ev_var rfl) ev_c (rv_eq rfl))) rfl) (fun _ => ev_c) (fun h => nomatch h)) fun H3 e3 => q H3 (e12.trans e3)
        · have q' : RetV (optI (some (-(n : Int)))) H Q := by
            have := q
            simp only [if_neg n0] at this
            exact this
          exact s_ret (ev_if (b := false) (et_or (a := false) (b := false) (et_is (et_test (ev_op (ev_var rfl) ev_c rv_isN)) rfl) fun _ => et_is (et_test (ev_op (ev_var rfl) ev_c (rv_eq rfl))) (decide_eq_false fun z => n0 (by have := V.int.inj z; omega))) (fun h => nomatch h) (fun _ => ev_neg (ev_var rfl))) fun H3 e3 => q' H3 (e12.trans e3)
    · rw [show (l.take [45].length == [45]) = false by exact beq_eq_false_iff_ne.mpr h1] at tst
      refine q_when tst (fun h => nomatch h) fun _ H1 e1 => ?_
      have ew : optI (wholeT l) = optN (natT l) := by
        unfold wholeT
        rw [if_neg h1]
        cases natT l <;> rfl
      rw [ew] at q
      exact s_ret (ev_call (ea_cons (ev_var rfl) ea_nil) (v_read_natural hl)) fun H3 e3 => q H3 (e1.trans e3)
/-! ### _law_one_of -/
theorem ew_ixP {K : PySem.W.Frag} {σ : L2.St} {H : Hp} {tl ti : TE} {a p : Addr} {d : Nat} {P P1 : V → Prop} {xs : List V} (hl : Ev tl σ (hid a H) (.ref p)) (g : H p = some (.lst xs)) (np : p ≠ a) (hi : EvW a d ti σ H P) (hP : ∀ v, P v → ∃ (i : Int) (x : V), v = .int i ∧ atI xs i = some x ∧ P1 x) : EvW a d (tOp (rIxL K) tl ti) σ H P1 := fun n H1 b w l Q q =>
  hl H1 (ex_hid b) _ fun H2 e2 => hi n H2 (b.trans (But.ex e2)) (w.ex e2) l _ fun v H3 b3 w3 pv => by
    obtain ⟨i, x, rfl, hx, px⟩ := hP v pv
    exact ⟨p, xs, i, x, rfl, rfl, sq_of (b3 p _ np (e2 p _ (b p _ np g))), hx, q x H3 ((But.ex e2).trans b3) w3 px⟩
def sp_law_one_of (K : PySem.W.Frag) : Sp := fun vs H Q _ => ∃ (a p : Addr) (xs : List V) (n : Nat), vs = [.ref a, .ref p] ∧ Well H a n ∧ n + 1 ≤ 2 ^ 50 ∧ H p = some (.lst xs) ∧ p ≠ a ∧ 0 < xs.length ∧ xs.length ≤ 100000 ∧ ∀ v H2, v ∈ xs → But a H H2 → Well H2 a (n + 1) → Q v H2
theorem ok_law_one_of (T : Txt K mg) : FnG PP w K mg base CX0 3 T.a_law_one_of T.d_law_one_of ["well", "some"] (sp_law_one_of K) := by
  refine okG T.F_law_one_of sc_law_one_of (fun vs H Q E h => ?_) (fun cdv A out s H vs Q E hr h => ?_)
  · obtain ⟨a, p, xs, n, rfl, hw, hn, g, np, h0, h1, q⟩ := h
    rfl
  · obtain ⟨a, p, xs, n, rfl, hw, hn, g, np, h0, h1, q⟩ := h
    refine ⟨_, (pss_one (ps_ret (pe_ix (ix_listK (K := K) rfl) (pv 1) (callG (ok_law_pull T) (hr.mono (by decide)) (by rfl) T.g_law_pull T.F_law_pull.kp (b_law_pull T) .nil pass0 (pa_cons (pv 0) (pa_cons (pe_callB (call_lenK (K := K) rfl) (by rfl) T.z_len bt_len (pa_cons (pv 1) pa_nil)) pa_nil))) (fun _ _ => rfl)))), ?_⟩
    refine sw_ret (ew_ixP (P := fun v => ∃ r : Int, v = .int r ∧ 0 ≤ r ∧ r < xs.length) (P1 := fun v => v ∈ xs) (ev_var rfl) g np (ew_drawC (m := (xs.length : Int)) rfl (ev_len (ev_var rfl) (sq_of (by rw [hid_ne np]; exact g))) (by omega) (lt8000 (Int.lt_of_le_of_lt (show (xs.length : Int) ≤ 100000 by omega) (by decide)))) ?_) hw (by omega) fun v H1 b1 w1 hv => q v H1 hv b1 w1
    rintro v ⟨r, rfl, r0, r1⟩
    obtain ⟨k, rfl⟩ : ∃ k : Nat, r = k := ⟨r.toNat, by omega⟩
    have hk : k < xs.length := by omega
    exact ⟨_, xs[k], rfl, atI_nat (List.getElem?_eq_getElem hk), List.getElem_mem hk⟩
/-! ### _law_bracketed_of -/
def sp_law_bracketed_of (K : PySem.W.Frag) : Sp := fun us H Q _ => ∃ l : List Nat, us = [.str (S l)] ∧ l.length ≤ 640 ∧ okS l ∧ RetV (optI (brkT l)) H Q
theorem v_brk_of {K : PySem.W.Frag} {H : Hp} {l : List Nat} (h : l.length ≤ 640) (ok : okS l) : SpV (sp_law_bracketed_of K) [.str (S l)] H (optI (brkT l)) := fun H1 e Q q E => ⟨l, rfl, h, ok, q⟩
theorem ok_law_bracketed_of (T : Txt K mg) : FnG PP w K mg base CX0 3 T.a_law_bracketed_of T.d_law_bracketed_of ["part"] (sp_law_bracketed_of K) := by
  refine okG T.F_law_bracketed_of sc_law_bracketed_of (fun vs H Q E h => ?_) (fun cdv A out s H vs Q E hr h => ?_)
  · obtain ⟨l, rfl, hl, ok, q⟩ := h
    rfl
  · obtain ⟨l, rfl, hl, ok, q⟩ := h
    refine ⟨_, (pss_cons (ps_if (PW.pt (pw_and (pt_cmpR op_eq (pe_slice sl_str (pv 0) po_none (po_some pe_int)) pe_str (nomark _)) (pw_and1 (pt_cmpR op_eq (pe_slice sl_str (pv 0) (po_some (pe_un un_neg pe_int)) po_none) pe_str (nomark _)))))
      (pss_cons (ps_set (i := 1) sc_law_bracketed_of.nd rfl (.inl rfl) (callG (ok_law_number_of T) (hr.mono (by decide)) (by rfl) T.g_law_number_of T.F_law_number_of.kp (b_law_number_of T) .nil pass0 (pa_cons (pe_slice sl_str (pv 0) (po_some pe_int) (po_some (pe_un un_neg pe_int))) pa_nil)))
      (pss_one (ps_ret (pe_ifExp (PW.pt (pw_and (pt_cmpR op_notN (pv 1) pe_non (nomark _)) (pw_and1 (pt_cmpR op_lt (pv 1) pe_int (nomark _))))) (pv 1) pe_non))))
      pss_nil)
    (pss_one (ps_ret (callG (ok_law_digits_of T) (hr.mono (by decide)) (by rfl) T.g_law_digits_of T.F_law_digits_of.kp (b_law_digits_of T) .nil pass0 (pa_cons (pv 0) pa_nil))))), ?_⟩
    have l24 : (S l).length ≤ sizeLine := by rw [S_len]; show _ ≤ 2 ^ 24; omega
    rw [← lawB_eq] at q
    unfold lawB at q
    refine q_when (b := decide (l.take 1 = [40]) && decide (l.drop (l.length - 1) = [41])) (et_and (et_is (et_test (ev_op (ev_is (ev_slS (ev_var rfl) eo_none (eo_some ev_c) l24) (congrArg V.str (cut_to l 1))) ev_c (rv_eq rfl))) (V_dec (l.take 1) [40])) fun _ => et_is (et_test (ev_op (ev_is (ev_slS (ev_var rfl) (eo_some (ev_neg ev_c)) eo_none l24) (congrArg V.str (cut_last l))) ev_c (rv_eq rfl))) (V_dec _ [41])) (fun hb H1 e1 => ?_) (fun hb H1 e1 => ?_)
    · simp only [Bool.and_eq_true, decide_eq_true_eq] at hb
      rw [if_pos hb] at q
      have l2 : 2 ≤ l.length := by
        refine Classical.byContradiction fun z => ?_
        match l, hb with
        | [], ⟨h, _⟩ => cases h
        | [c], ⟨h, h'⟩ =>
          have e1 : [c] = [40] := h
          have e2 : [c] = [41] := h'
          rw [e1] at e2
          cases e2
        | c :: d :: r, _ =>
          simp only [List.length_cons] at z
          omega
      refine q_asg (v := optI (wholeT ((l.drop 1).take (l.length - 2)))) (ev_call (ea_cons (ev_is (ev_slS (ev_var rfl) (eo_some ev_c) (eo_some (ev_neg ev_c)) l24) (congrArg V.str (cut_inner l2))) ea_nil) (v_number_of (by rw [List.length_take]; omega) (okS_take (okS_drop ok 1) _))) fun H2 e2 => ?_
      have e12 := e1.trans e2
      generalize wholeT ((l.drop 1).take (l.length - 2)) = o at q
      cases o with
      | none => exact s_ret (ev_if (b := false) (et_and (a := false) (b := false) (et_is (et_test (ev_op (ev_var rfl) ev_c rv_notN)) rfl) (fun h => nomatch h)) (fun h => nomatch h) (fun _ => ev_c)) fun H3 e3 => q H3 (e12.trans e3)
      | some n =>
        replace q : RetV (optI (if n < 0 then some n else none)) H Q := q
        by_cases hn : n < 0
        · rw [if_pos hn] at q
          exact s_ret (ev_if (b := true) (et_and (a := true) (b := true) (et_is (et_test (ev_op (ev_var rfl) ev_c rv_notN)) rfl) fun _ => et_test (ev_op (ev_var rfl) ev_c (rv_b (decide_eq_true hn)))) (fun _ => ev_var rfl) (fun h => nomatch h)) fun H3 e3 => q H3 (e12.trans e3)
        · rw [if_neg hn] at q
          exact s_ret (ev_if (b := false) (et_and (a := true) (b := false) (et_is (et_test (ev_op (ev_var rfl) ev_c rv_notN)) rfl) fun _ => et_test (ev_op (ev_var rfl) ev_c (rv_b (decide_eq_false hn)))) (fun h => nomatch h) (fun _ => ev_c)) fun H3 e3 => q H3 (e12.trans e3)
    · have hb' : ¬ (l.take 1 = [40] ∧ l.drop (l.length - 1) = [41]) := fun z => by
        rw [decide_eq_true z.1, decide_eq_true z.2] at hb
        cases hb
      rw [if_neg hb', optI_natI] at q
      exact s_ret (ev_call (ea_cons (ev_var rfl) ea_nil) (v_digits hl ok)) fun H2 e2 => q H2 (e1.trans e2)
/-! ### check_rule -/
def sp_check_rule (K : PySem.W.Frag) : Sp := fun vs H Q _ => ∃ (r : Addr) (ts : List Tm), vs = [.ref r] ∧ Rul H r ts ∧ 0 < ts.length ∧ ts.length ≤ 12 ∧ (∀ t ∈ ts, TmOk t) ∧ RetV .non H Q
theorem v_check_rule {K : PySem.W.Frag} {H : Hp} {r : Addr} {ts : List Tm} (h : Rul H r ts) (h0 : 0 < ts.length) (h1 : ts.length ≤ 12) (ok : ∀ t ∈ ts, TmOk t) : SpV (sp_check_rule K) [.ref r] H .non := fun H1 e Q q E => ⟨r, ts, rfl, h.ex e, h0, h1, ok, q⟩
theorem ok_check_rule (T : Txt K mg) : FnG PP w K mg base CX0 4 T.a_check_rule T.d_check_rule ["rule"] (sp_check_rule K) := by
  refine okG T.F_check_rule sc_check_rule (fun vs H Q E h => ?_) (fun cdv A out s H vs Q E hr h => ?_)
  · obtain ⟨r, ts, rfl, hR, h0, h12, ok, q⟩ := h
    rfl
  · obtain ⟨r, ts, rfl, hR, h0, h12, ok, q⟩ := h
    refine ⟨_, (pss_cons (ps_if (PW.pt (pw_or (pt_not (pt_val (pe_callB (call_isiK' (K := K) rfl) (by rfl) T.z_isinstance bt_isinstance (pa_cons (pv 0) (pa_cons (pe_bltn (v := .ty "list") (by rfl) T.z_list bt_list rfl) pa_nil))))) (pw_or1 (pt_cmpR op_eq (pe_callB (call_lenK (K := K) rfl) (by rfl) T.z_len bt_len (pa_cons (pv 0) pa_nil)) pe_int (nomark _)))))
      (pss_one ps_never)
      pss_nil)
    (pss_one (ps_for PassesOwn.never rfl (pi_enum (by rfl) T.z_enumerate (pa_cons (pv 0) pa_nil)) (pg_tup rfl (pgs_cons (pg_name (i := 1) sc_check_rule.nd rfl (.inl rfl)) (pgs_cons (pg_name (i := 2) sc_check_rule.nd rfl (.inl rfl)) pgs_nil)))
      (pss_one (ps_if (PW.pt (pw_or (pt_cmpR op_ge (pv 1) (pe_glob (v := .int 12) rfl T.c_MOST_TERMS ⟨_, rfl⟩) (nomark _)) (pw_or1 (pt_not (pt_val (callG (ok_is_term T) (hr.mono (by decide)) (by rfl) T.g_is_term T.F_is_term.kp (b_is_term T) .nil pass0 (pa_cons (pv 2) pa_nil)))))))
        (pss_one ps_never)
        pss_nil))))), ?_⟩
    obtain ⟨as, g, la, f⟩ := id hR
    refine q_when (b := false) (et_or (a := false) (b := false) (et_not (a := true) (et_B (ev_isi (ev_var rfl) (fun H1 e => ty_seql (sq_of (e _ _ g))) kb_list_list))) fun _ => et_is (et_test (ev_op (ev_len (ev_var rfl) (sq_of g)) ev_c (rv_eq rfl))) ?_) (fun h => nomatch h) (fun _ H1 e1 => ?_)
    · exact decide_eq_false fun z => by
        have z' : ((as.map V.ref).length : Int) = 0 := V.int.inj z
        rw [List.length_map] at z'
        omega
    refine s_forEn (ev_var rfl) (sq_of (e1 _ _ g)) (fun i σ' H' => ∃ y1 y2, σ' = [some (.ref r), y1, y2] ∧ Ex H H') (fun H2 e2 => ⟨none, none, rfl, e1.trans e2⟩) ?_ ?_ ?_
    · rintro i σ' H' _ ⟨_, _, _, e⟩
      exact sq_of (e _ _ g)
    · rintro i x σ' H' hx ⟨y1, y2, rfl, e⟩ H2 e2
      rw [List.getElem?_map] at hx
      cases hg : as[i]? with
      | none =>
        rw [hg] at hx
        cases hx
      | some a =>
        rw [hg] at hx
        cases hx
        have hi := (List.getElem?_eq_some_iff.mp hg).1
        have ht : ts[i]? = some (ts[i]'(by omega)) := List.getElem?_eq_getElem _
        refine s_when (b := false) (et_or (a := false) (b := false) (et_is (et_test (ev_op (ev_var rfl) ev_c rv_I0)) (decide_eq_false (by omega))) fun _ => et_not (a := true) (et_B (ev_call (ea_cons (ev_var rfl) ea_nil) (v_is_term (st_of ((e.trans e2) _ _ (f i a _ hg ht))) (ok _ (List.getElem_mem _)))))) (fun h => nomatch h) (fun _ H3 e3 => ?_)
        exact ⟨_, _, rfl, (e.trans e2).trans e3⟩
    · rintro σ' H' ⟨_, _, _, e⟩
      exact q H' e
/-! ### _bracketed -/
def sp_bracketed (K : PySem.W.Frag) : Sp := fun vs H Q _ => ∃ n : Int, vs = [.int n] ∧ -1000000000 ≤ n ∧ n ≤ 1000000000 ∧ RetV (.str (S (brT n))) H Q
theorem v_bracketed {K : PySem.W.Frag} {H : Hp} {n : Int} (h0 : -1000000000 ≤ n) (h1 : n ≤ 1000000000) : SpV (sp_bracketed K) [.int n] H (.str (S (brT n))) := fun H1 e Q q E => ⟨n, rfl, h0, h1, q⟩
theorem ok_bracketed (T : Txt K mg) : FnG PP w K mg base CX0 4 T.a_bracketed T.d_bracketed ["number"] (sp_bracketed K) := by
  refine okG T.F_bracketed sc_bracketed (fun vs H Q E h => ?_) (fun cdv A out s H vs Q E hr h => ?_)
  · obtain ⟨n, rfl, h0, h1, q⟩ := h
    rfl
  · obtain ⟨n, rfl, h0, h1, q⟩ := h
    refine ⟨_, (pss_one (ps_ret (pe_ifExp (pt_cmpR op_lt (pv 0) pe_int (nomark _)) (pe_joined (.cons pe_str (.cons (pe_fmt (callG (ok_written T) (hr.mono (by decide)) (by rfl) T.g_written T.F_written.kp (b_written T) .nil pass0 (pa_cons (pv 0) pa_nil))) (.cons pe_str .nil)))) (callG (ok_written T) (hr.mono (by decide)) (by rfl) T.g_written T.F_written.kp (b_written T) .nil pass0 (pa_cons (pv 0) pa_nil))))), ?_⟩
    by_cases hn : n < 0
    · have eb := br_neg hn
      exact s_ret (ev_if (b := true) (et_test (ev_op (ev_var rfl) ev_c (rv_b (decide_eq_true hn)))) (fun _ => (ev_is (ev_js (out := 40 :: (numT n ++ [41])) (ej_cons (a := []) (b := [40]) ev_c (by decide) (ej_cons (a := [40]) (b := numT n) (ev_fmt (ev_call (ea_cons (ev_var rfl) ea_nil) (v_written (lt1900 h0 h1))) (by have := num_small h0 h1; omega)) (by have := num_small h0 h1; show 1 + _ ≤ _; omega) (ej_cons (a := 40 :: numT n) (b := [41]) ev_c (by have := num_small h0 h1; rw [List.length_cons]; show _ + 1 + 1 ≤ _; omega) ej_nil)))) (by rw [eb]))) (fun h => nomatch h)) q
    · exact s_ret (ev_if (b := false) (et_test (ev_op (ev_var rfl) ev_c (rv_b (decide_eq_false hn)))) (fun h => nomatch h) (fun _ => ev_is (ev_call (ea_cons (ev_var rfl) ea_nil) (v_written (lt1900 h0 h1))) (by rw [br_pos hn]))) q
/-! ### _read_bracketed -/
def sp_read_bracketed (K : PySem.W.Frag) : Sp := fun vs H Q _ => ∃ l : List Nat, vs = [.str (S l)] ∧ l.length ≤ 640 ∧ RetV (optI (brkT l)) H Q
theorem v_read_bracketed {K : PySem.W.Frag} {H : Hp} {l : List Nat} (h : l.length ≤ 640) : SpV (sp_read_bracketed K) [.str (S l)] H (optI (brkT l)) := fun H1 e Q q E => ⟨l, rfl, h, q⟩
theorem ok_read_bracketed (T : Txt K mg) : FnG PP w K mg base CX0 4 T.a_read_bracketed T.d_read_bracketed ["text"] (sp_read_bracketed K) := by
  refine okG T.F_read_bracketed sc_read_bracketed (fun vs H Q E h => ?_) (fun cdv A out s H vs Q E hr h => ?_)
  · obtain ⟨l, rfl, hl, q⟩ := h
    rfl
  · obtain ⟨l, rfl, hl, q⟩ := h
    refine ⟨_, (pss_cons (ps_if (PW.pt (pw_or (pt_not (pt_val (pe_m1 PySem.F.slot_str_startswith PySem.F.type_str_startswith mt_startswith1 (pv 0) pe_str))) (pw_or1 (pt_not (pt_val (pe_m1 PySem.F.slot_str_endswith PySem.F.type_str_endswith mt_endswith1 (pv 0) pe_str))))))
      (pss_one (ps_ret (callG (ok_read_natural T) (hr.mono (by decide)) (by rfl) T.g_read_natural T.F_read_natural.kp (b_read_natural T) .nil pass0 (pa_cons (pv 0) pa_nil))))
      pss_nil)
    (pss_one (ps_ret (callG (ok_read_whole T) (hr.mono (by decide)) (by rfl) T.g_read_whole T.F_read_whole.kp (b_read_whole T) .nil pass0 (pa_cons (pe_slice sl_str (pv 0) (po_some pe_int) (po_some (pe_un un_neg pe_int))) pa_nil))))), ?_⟩
    have tst := et_or (a := !(l.take 2 == [40, 45])) (b := !(l.drop (l.length - 1) == [41])) (σ := [some (.str (S l))]) (H := H) (et_not (et_is (et_B (ev_t1 (ta := tVar 0) (tb := tC (.str "(-")) (g := fun a b => .bl (Txt.startswith a b)) (ev_var rfl) ev_c)) (starts_S l [40, 45]))) fun _ => et_not (et_is (et_B (ev_t1 (ta := tVar 0) (tb := tC (.str ")")) (g := fun a b => .bl (Txt.endswith a b)) (ev_var rfl) ev_c)) (ends_S (l := l) 41))
    by_cases h : l.take 2 = [40, 45] ∧ l.drop (l.length - 1) = [41]
    · have e : (!(l.take 2 == [40, 45]) || !(l.drop (l.length - 1) == [41])) = false := by
        rw [h.1, h.2]
        rfl
      rw [e] at tst
      have l2 : 2 ≤ l.length := by
        have := congrArg List.length h.1
        rw [List.length_take] at this
        have : min 2 l.length = 2 := this
        omega
      refine q_when tst (fun h => nomatch h) fun _ H1 e1 => ?_
      have eb : brkT l = wholeT ((l.drop 1).take (l.length - 2)) := by
        unfold brkT
        exact if_pos h
      rw [eb] at q
      exact s_ret (ev_call (ea_cons (ev_is (ev_slS (ev_var rfl) (eo_some ev_c) (eo_some (ev_neg ev_c)) (slen l (by omega))) (congrArg V.str (cut_inner l2))) ea_nil) (v_read_whole (by rw [List.length_take]; omega))) fun H2 e2 => q H2 (e1.trans e2)
    · have e : (!(l.take 2 == [40, 45]) || !(l.drop (l.length - 1) == [41])) = true := by
        by_cases h1 : l.take 2 = [40, 45]
        · have h2 : l.drop (l.length - 1) ≠ [41] := fun z => h ⟨h1, z⟩
          rw [show (l.drop (l.length - 1) == [41]) = false from beq_eq_false_iff_ne.mpr h2]
          simp
        · rw [show (l.take 2 == [40, 45]) = false from beq_eq_false_iff_ne.mpr h1]
          rfl
      rw [e] at tst
      refine q_when tst (fun _ H1 e1 => ?_) (fun h => nomatch h)
      have eb : optI (brkT l) = optN (natT l) := by
        unfold brkT
        rw [if_neg h]
        cases natT l <;> rfl
      rw [eb] at q
      exact s_ret (ev_call (ea_cons (ev_var rfl) ea_nil) (v_read_natural hl)) fun H2 e2 => q H2 (e1.trans e2)
/-! ### _law_term -/
theorem ew_oneof {K : PySem.W.Frag} {σ : L2.St} {H : Hp} {a : Addr} {P : V → Prop} {d n i : Nat} {t : TA} {E : XK} (hσ : σ[i]? = some (some (.ref a))) (h : EvWA a d t σ H (fun vs => vs.length = n + 1 ∧ ∀ v ∈ vs, P v)) (hn : n < 1000) : EvW a (d + 1) (tCall (sp_law_one_of K) [] E (tCons (tVar i) (tCons (tLst t) tNil))) σ H P := fun m H1 b w l Q q =>
  ⟨.ref a, hσ, ewl_lst h (fun xs hx => by have := hx.1; omega) m H1 b w (by omega) _ fun p xs H2 hp b2 w2 g ⟨le, hx⟩ => ⟨a, p, xs, m + d, rfl, w2, by omega, g, w.ne hp, by omega, by omega, fun v H3 hv b3 w3 => q v H3 (b2.trans b3) w3 (hx v hv)⟩⟩
def sp_law_term (K : PySem.W.Frag) : Sp := fun vs H Q _ => ∃ (a : Addr) (n : Nat), vs = [.ref a] ∧ Well H a n ∧ n + 5 ≤ 2 ^ 50 ∧ ∀ p t H2, H p = none → But a H H2 → Well H2 a (n + 5) → H2 p = some (.tup (tv t)) → TmOk t → Q (.ref p) H2
theorem ok_law_term (T : Txt K mg) : FnG PP w K mg base CX0 4 T.a_law_term T.d_law_term ["well"] (sp_law_term K) := by
  refine okG T.F_law_term sc_law_term (fun vs H Q E h => ?_) (fun cdv A out s H vs Q E hr h => ?_)
  · obtain ⟨a, n, rfl, hw, hn, q⟩ := h
    rfl
  · obtain ⟨a, n, rfl, hw, hn, q⟩ := h
    refine ⟨_, (pss_cons (ps_set (i := 1) sc_law_term.nd rfl (.inl rfl) (callG (ok_law_pull T) (hr.mono (by decide)) (by rfl) T.g_law_pull T.F_law_pull.kp (b_law_pull T) .nil pass0 (pa_cons (pv 0) (pa_cons pe_int pa_nil))))
    (pss_cons (ps_set (i := 2) sc_law_term.nd rfl (.inl rfl) (callG (ok_law_one_of T) (hr.mono (by decide)) (by rfl) T.g_law_one_of T.F_law_one_of.kp (b_law_one_of T) .nil pass0 (pa_cons (pv 0) (pa_cons (pe_lst (pa_cons pe_int (pa_cons pe_int (pa_cons (pe_un un_neg pe_int) (pa_cons pe_int (pa_cons (pe_un un_neg pe_int) (pa_cons (pe_op op_powW pe_int pe_int) (pa_cons (pe_un un_neg (pe_op op_powW pe_int pe_int)) (pa_cons (pe_op op_sub (callG (ok_law_pull T) (hr.mono (by decide)) (by rfl) T.g_law_pull T.F_law_pull.kp (b_law_pull T) .nil pass0 (pa_cons (pv 0) (pa_cons pe_int pa_nil))) pe_int) pa_nil))))))))) pa_nil))))
    (pss_cons (ps_if (pt_cmpR op_eq (pv 1) pe_int (nomark _))
      (pss_one (ps_ret (pe_tup (pa_cons pe_str (pa_cons (pv 2) (pa_cons (callG (ok_law_one_of T) (hr.mono (by decide)) (by rfl) T.g_law_one_of T.F_law_one_of.kp (b_law_one_of T) .nil pass0 (pa_cons (pv 0) (pa_cons (pe_lst (pa_cons pe_int (pa_cons pe_int (pa_cons (pe_un un_neg pe_int) (pa_cons pe_int (pa_cons (pe_un un_neg pe_int) (pa_cons (pe_op op_sub (callG (ok_law_pull T) (hr.mono (by decide)) (by rfl) T.g_law_pull T.F_law_pull.kp (b_law_pull T) .nil pass0 (pa_cons (pv 0) (pa_cons pe_int pa_nil))) pe_int) pa_nil))))))) pa_nil))) pa_nil))))))
      pss_nil)
    (pss_cons (ps_if (pt_cmpR op_eq (pv 1) pe_int (nomark _))
      (pss_one (ps_ret (pe_tup (pa_cons pe_str (pa_cons (pv 2) (pa_cons (callG (ok_law_one_of T) (hr.mono (by decide)) (by rfl) T.g_law_one_of T.F_law_one_of.kp (b_law_one_of T) .nil pass0 (pa_cons (pv 0) (pa_cons (pe_lst (pa_cons pe_int (pa_cons pe_int (pa_cons pe_int (pa_cons (pe_op op_add pe_int (callG (ok_law_pull T) (hr.mono (by decide)) (by rfl) T.g_law_pull T.F_law_pull.kp (b_law_pull T) .nil pass0 (pa_cons (pv 0) (pa_cons pe_int pa_nil)))) pa_nil))))) pa_nil))) pa_nil))))))
      pss_nil)
    (pss_one (ps_ret (pe_tup (pa_cons pe_str (pa_cons (pv 2) (pa_cons (pe_op op_add pe_int (callG (ok_law_pull T) (hr.mono (by decide)) (by rfl) T.g_law_pull T.F_law_pull.kp (b_law_pull T) .nil pass0 (pa_cons (pv 0) (pa_cons pe_int pa_nil)))) pa_nil)))))))))), ?_⟩
    refine qw_asg (P := PI 0 2) (ew_pi (m := 3) rfl ev_c (by decide) (by decide) (by decide) (by decide) rfl) hw (by omega) fun v H1 b1 w1 ⟨way, e, y0, y1⟩ => ?_
    subst e
    refine qw_asg (P := PI (-1000000) 1000000) (ew_oneof rfl (ewx_cons (ew_i ev_c (by decide) (by decide)) (ewx_cons (ew_i ev_c (by decide) (by decide)) (ewx_cons (ew_i (ev_neg ev_c) (by decide) (by decide)) (ewx_cons (ew_i ev_c (by decide) (by decide)) (ewx_cons (ew_i (ev_neg ev_c) (by decide) (by decide)) (ewx_cons (ew_i (ev_op ev_c ev_c (rv_I (cpw (by decide) (by decide) (by decide)))) (by decide) (by decide)) (ewx_cons (ew_i (ev_neg (ev_op ev_c ev_c (rv_I (cpw (by decide) (by decide) (by decide))))) (by decide) (by decide)) (ewx_cons (ew_pisub (lo := 0) (hi := 2000) (ew_pi (m := 2001) rfl ev_c (by decide) (by decide) (by decide) (by decide) rfl) ev_c (by decide) (by decide)) ewx_nil)))))))) (by decide)) w1 (by omega) fun v H2 b2 w2 ⟨c, e, c0, c1⟩ => ?_
    subst e
    obtain ⟨j, rfl⟩ : ∃ j : Nat, way = j := ⟨way.toNat, by omega⟩
    match j, y1 with
    | 0, _ =>
      refine q_when (b := true) (et_test (ev_op (ev_var rfl) ev_c (rv_eq rfl))) (fun _ H3 e3 => ?_) (fun h => nomatch h)
      refine sw_retU (ewu_tup (ewa_cons (P := fun v => v = .str "power") (ew_pure ev_c rfl) (ewa_cons (P := fun v => v = .int c) (ew_pure (ev_var rfl) rfl) (ewa_cons (P := PI (-40) 40) (ew_oneof rfl (ewx_cons (ew_i ev_c (by decide) (by decide)) (ewx_cons (ew_i ev_c (by decide) (by decide)) (ewx_cons (ew_i (ev_neg ev_c) (by decide) (by decide)) (ewx_cons (ew_i ev_c (by decide) (by decide)) (ewx_cons (ew_i (ev_neg ev_c) (by decide) (by decide)) (ewx_cons (ew_pisub (lo := 0) (hi := 80) (ew_pi (m := 81) rfl ev_c (by decide) (by decide) (by decide) (by decide) rfl) ev_c (by decide) (by decide)) ewx_nil)))))) (by decide)) ewa_nil))) ?_) (w2.ex e3) (by omega) ?_
      · rintro xs ⟨x, xs', rfl, rfl, y, ys, rfl, rfl, z, zs, rfl, _, rfl⟩
        show 3 ≤ 100000
        decide
      · rintro p xs H4 hp b4 w4 g4 ⟨x, xs', rfl, rfl, y, ys, rfl, rfl, z, zs, rfl, ⟨k, rfl, k0, k1⟩, rfl⟩
        exact q p ⟨0, c, k⟩ H4 (but_free (b1.trans b2) w2 (fresh_back e3 hp)) (((b1.trans b2).trans (But.ex e3)).trans b4) (w4.mono (by omega)) g4 ⟨c0, c1, by show 0 < 3; decide, fun _ => ⟨k0, k1⟩, (fun h => nomatch h), (fun h => nomatch h)⟩
    | 1, _ =>
      refine q_when (b := false) (et_test (ev_op (ev_var rfl) ev_c (rv_eq rfl))) (fun h => nomatch h) fun _ H3 e3 => ?_
      refine q_when (b := true) (et_test (ev_op (ev_var rfl) ev_c (rv_eq rfl))) (fun _ H4 e4 => ?_) (fun h => nomatch h)
      refine sw_retU (ewu_tup (ewa_cons (P := fun v => v = .str "ring") (ew_pure ev_c rfl) (ewa_cons (P := fun v => v = .int c) (ew_pure (ev_var rfl) rfl) (ewa_cons (P := PI 1 300) (ew_oneof rfl (ewx_cons (ew_i ev_c (by decide) (by decide)) (ewx_cons (ew_i ev_c (by decide) (by decide)) (ewx_cons (ew_i ev_c (by decide) (by decide)) (ewx_cons (ew_piadd (lo := 0) (hi := 299) ev_c (ew_pi (m := 300) rfl ev_c (by decide) (by decide) (by decide) (by decide) rfl) (by decide) (by decide)) ewx_nil)))) (by decide)) ewa_nil))) ?_) ((w2.ex e3).ex e4) (by omega) ?_
      · rintro xs ⟨x, xs', rfl, rfl, y, ys, rfl, rfl, z, zs, rfl, _, rfl⟩
        show 3 ≤ 100000
        decide
      · rintro p xs H5 hp b5 w5 g5 ⟨x, xs', rfl, rfl, y, ys, rfl, rfl, z, zs, rfl, ⟨k, rfl, k0, k1⟩, rfl⟩
        exact q p ⟨1, c, k⟩ H5 (but_free (b1.trans b2) w2 (fresh_back (e3.trans e4) hp)) (((b1.trans b2).trans (But.ex (e3.trans e4))).trans b5) (w5.mono (by omega)) g5 ⟨c0, c1, by show 1 < 3; decide, (fun h => nomatch h), fun _ => ⟨k0, k1⟩, (fun h => nomatch h)⟩
    | 2, _ =>
      refine q_when (b := false) (et_test (ev_op (ev_var rfl) ev_c (rv_eq rfl))) (fun h => nomatch h) fun _ H3 e3 => ?_
      refine q_when (b := false) (et_test (ev_op (ev_var rfl) ev_c (rv_eq rfl))) (fun h => nomatch h) fun _ H4 e4 => ?_
      refine sw_retU (ewu_tup (ewa_cons (P := fun v => v = .str "places") (ew_pure ev_c rfl) (ewa_cons (P := fun v => v = .int c) (ew_pure (ev_var rfl) rfl) (ewa_cons (P := PI 1 6) (ew_piadd (lo := 0) (hi := 5) ev_c (ew_pi (m := 6) rfl ev_c (by decide) (by decide) (by decide) (by decide) rfl) (by decide) (by decide)) ewa_nil))) ?_) ((w2.ex e3).ex e4) (by omega) ?_
      · rintro xs ⟨x, xs', rfl, rfl, y, ys, rfl, rfl, z, zs, rfl, _, rfl⟩
        show 3 ≤ 100000
        decide
      · rintro p xs H5 hp b5 w5 g5 ⟨x, xs', rfl, rfl, y, ys, rfl, rfl, z, zs, rfl, ⟨k, rfl, k0, k1⟩, rfl⟩
        exact q p ⟨2, c, k⟩ H5 (but_free (b1.trans b2) w2 (fresh_back (e3.trans e4) hp)) (((b1.trans b2).trans (But.ex (e3.trans e4))).trans b5) (w5.mono (by omega)) g5 ⟨c0, c1, by show 2 < 3; decide, (fun h => nomatch h), (fun h => nomatch h), fun _ => ⟨k0, k1⟩⟩
    | j + 3, y1 => omega
/-! ### _law_term_of -/
def sp_law_term_of (K : PySem.W.Frag) : Sp := fun us H Q _ => ∃ l : List Nat, us = [.str (S l)] ∧ l.length ≤ 30000 ∧ okS l ∧ (∀ w ∈ prts [32] l, w.length ≤ 640) ∧ RetP (fun v H2 => TV v H2 (readT l)) H Q
theorem p_term_of {K : PySem.W.Frag} {H : Hp} {l : List Nat} (h : l.length ≤ 30000) (ok : okS l) (hw : ∀ w ∈ prts [32] l, w.length ≤ 640) : SpP (sp_law_term_of K) [.str (S l)] H (fun v H2 => TV v H2 (readT l)) := fun H1 e Q q E => ⟨l, rfl, h, ok, hw, q⟩
theorem ok_law_term_of (T : Txt K mg) : FnG PP w K mg base CX0 4 T.a_law_term_of T.d_law_term_of ["part"] (sp_law_term_of K) := by
  refine okG T.F_law_term_of sc_law_term_of (fun vs H Q E h => ?_) (fun cdv A out s H vs Q E hr h => ?_)
  · obtain ⟨l, rfl, hl, ok, hp, q⟩ := h
    rfl
  · obtain ⟨l, rfl, hl, ok, hp, q⟩ := h
    refine ⟨_, (pss_cons (ps_set (i := 1) sc_law_term_of.nd rfl (.inl rfl) (pe_m1 PySem.F.slot_str_split PySem.F.type_str_split mt_splitR (pv 0) pe_str))
    (pss_cons (ps_if (PW.pt (pw_or (pt_cmpR op_lt (pe_callB (call_lenK (K := K) rfl) (by rfl) T.z_len bt_len (pa_cons (pv 1) pa_nil)) pe_int (nomark _)) (pw_or (pt_cmpR op_ne (pe_ix (ix_listK (K := K) rfl) (pv 1) pe_int (fun _ _ => rfl)) pe_str (nomark _)) (pw_or1 (pt_not (pt_val (callG (ok_law_within T) (hr.mono (by decide)) (by rfl) T.g_law_within T.F_law_within.kp (b_law_within T) .nil pass0 (pa_cons (callG (ok_law_bracketed_of T) (hr.mono (by decide)) (by rfl) T.g_law_bracketed_of T.F_law_bracketed_of.kp (b_law_bracketed_of T) .nil pass0 (pa_cons (pe_ix (ix_listK (K := K) rfl) (pv 1) pe_int (fun _ _ => rfl)) pa_nil)) (pa_cons (pe_un un_neg (pe_op op_powW pe_int pe_int)) (pa_cons (pe_op op_powW pe_int pe_int) pa_nil))))))))))
      (pss_one (ps_ret pe_non))
      pss_nil)
    (pss_cons (ps_set (i := 2) sc_law_term_of.nd rfl (.inl rfl) (callG (ok_law_bracketed_of T) (hr.mono (by decide)) (by rfl) T.g_law_bracketed_of T.F_law_bracketed_of.kp (b_law_bracketed_of T) .nil pass0 (pa_cons (pe_ix (ix_listK (K := K) rfl) (pv 1) pe_int (fun _ _ => rfl)) pa_nil)))
    (pss_cons (ps_if (pt_cmpR op_eq (pe_callB (call_lenK (K := K) rfl) (by rfl) T.z_len bt_len (pa_cons (pv 1) pa_nil)) pe_int (nomark _))
      (pss_cons (ps_set (i := 3) sc_law_term_of.nd rfl (.inl rfl) (callG (ok_law_digits_of T) (hr.mono (by decide)) (by rfl) T.g_law_digits_of T.F_law_digits_of.kp (b_law_digits_of T) .nil pass0 (pa_cons (pe_ix (ix_listK (K := K) rfl) (pv 1) pe_int (fun _ _ => rfl)) pa_nil)))
      (pss_one (ps_ret (pe_ifExp (PW.pt (pw_and (pt_cmpR op_eq (pe_ix (ix_listK (K := K) rfl) (pv 1) pe_int (fun _ _ => rfl)) pe_str (nomark _)) (pw_and1 (pt_val (callG (ok_law_within T) (hr.mono (by decide)) (by rfl) T.g_law_within T.F_law_within.kp (b_law_within T) .nil pass0 (pa_cons (pv 3) (pa_cons pe_int (pa_cons pe_int pa_nil)))))))) (pe_tup (pa_cons pe_str (pa_cons (pv 2) (pa_cons (pv 3) pa_nil)))) pe_non))))
      pss_nil)
    (pss_cons (ps_if (PW.pt (pw_or (pt_cmpR op_gt (pe_callB (call_lenK (K := K) rfl) (by rfl) T.z_len bt_len (pa_cons (pv 1) pa_nil)) pe_int (nomark _)) (pw_or1 (pt_cmpR op_ne (pe_ix (ix_listK (K := K) rfl) (pv 1) pe_int (fun _ _ => rfl)) pe_str (nomark _)))))
      (pss_one (ps_ret pe_non))
      pss_nil)
    (pss_cons (ps_if (pt_cmpR op_eq (pe_ix (ix_listK (K := K) rfl) (pv 1) pe_int (fun _ _ => rfl)) pe_str (nomark _))
      (pss_cons (ps_set (i := 3) sc_law_term_of.nd rfl (.inl rfl) (callG (ok_law_digits_of T) (hr.mono (by decide)) (by rfl) T.g_law_digits_of T.F_law_digits_of.kp (b_law_digits_of T) .nil pass0 (pa_cons (pe_ix (ix_listK (K := K) rfl) (pv 1) pe_int (fun _ _ => rfl)) pa_nil)))
      (pss_one (ps_ret (pe_ifExp (pt_val (callG (ok_law_within T) (hr.mono (by decide)) (by rfl) T.g_law_within T.F_law_within.kp (b_law_within T) .nil pass0 (pa_cons (pv 3) (pa_cons pe_int (pa_cons pe_int pa_nil))))) (pe_tup (pa_cons pe_str (pa_cons (pv 2) (pa_cons (pv 3) pa_nil)))) pe_non))))
      pss_nil)
    (pss_cons (ps_set (i := 3) sc_law_term_of.nd rfl (.inl rfl) (callG (ok_law_bracketed_of T) (hr.mono (by decide)) (by rfl) T.g_law_bracketed_of T.F_law_bracketed_of.kp (b_law_bracketed_of T) .nil pass0 (pa_cons (pe_ix (ix_listK (K := K) rfl) (pv 1) pe_int (fun _ _ => rfl)) pa_nil)))
    (pss_one (ps_ret (pe_ifExp (PW.pt (pw_and (pt_cmpR op_eq (pe_ix (ix_listK (K := K) rfl) (pv 1) pe_int (fun _ _ => rfl)) pe_str (nomark _)) (pw_and1 (pt_val (callG (ok_law_within T) (hr.mono (by decide)) (by rfl) T.g_law_within T.F_law_within.kp (b_law_within T) .nil pass0 (pa_cons (pv 3) (pa_cons (pe_un un_neg pe_int) (pa_cons pe_int pa_nil)))))))) (pe_tup (pa_cons pe_str (pa_cons (pv 2) (pa_cons (pv 3) pa_nil)))) pe_non)))))))))), ?_⟩
    have wok : ∀ w ∈ prts [32] l, okS w := fun w hm => List.all_eq_true.mpr fun c hc => List.all_eq_true.mp ok c (prts_mem (by decide) (by decide) hm hc)
    rw [readT_fin] at q
    refine q_asgL (xs := vs (prts [32] l)) (el_is (el_split (b := S [32]) (ev_var rfl) ev_c (by rw [S_len]; rfl) (by rw [S_len]; show _ ≤ 2 ^ 24; omega)) (by rw [prts_S (by decide) (by decide)]; unfold vs; rw [List.map_map]; rfl)) fun p H1 f1 e1 g1 => ?_
    generalize prts [32] l = ws at *
    have p6 : ∀ {σ' : L2.St} {H'}, Ev (tOp (rI CPowW fun i j => V.int (i ^ j.toNat)) (tC (V.int 10)) (tC (V.int 6))) σ' H' (.int 1000000) := ev_is (ev_op ev_c ev_c (rv_I (cpw (by decide) (by decide) (by decide)))) (congrArg V.int (by decide))
    by_cases h4 : ws.length < 4
    · rw [rd_less h4] at q
      exact q_when (b := true) (et_or (a := true) (b := true) (et_test (ev_op (ev_is (ev_len (ev_var rfl) (sq_of g1)) (by rw [vs_len])) ev_c (rv_b (decide_eq_true (show (ws.length : Int) < 4 by omega))))) (fun h => nomatch h)) (fun _ H2 e2 => s_ret (v := .non) ev_c fun H10 e10 => q .non H10 ((e1.trans e2).trans e10) rfl) (fun h => nomatch h)
    obtain ⟨w0, w1, w2, w3, r, rfl⟩ : ∃ w0 w1 w2 w3 r, ws = w0 :: w1 :: w2 :: w3 :: r := by
      match ws, h4 with
      | [], h => exact absurd (by decide) h
      | [_], h => exact absurd (show 1 < 4 by decide) h
      | [_, _], h => exact absurd (show 2 < 4 by decide) h
      | [_, _, _], h => exact absurd (show 3 < 4 by decide) h
      | w0 :: w1 :: w2 :: w3 :: r, _ => exact ⟨w0, w1, w2, w3, r, rfl⟩
    have o0 := wok w0 (List.mem_cons_self ..)
    have o2 := wok w2 (by simp)
    have o3 := wok w3 (by simp)
    have l0 := hp w0 (List.mem_cons_self ..)
    have l2 := hp w2 (by simp)
    have l3 := hp w3 (by simp)
    have ln : (w0 :: w1 :: w2 :: w3 :: r).length = r.length + 4 := rfl
    by_cases h1 : w1 = [42]
    case neg =>
      rw [rd_star h1] at q
      exact q_when (b := true) (et_or (a := false) (b := true) (et_test (ev_op (ev_is (ev_len (ev_var rfl) (sq_of g1)) (by rw [vs_len])) ev_c (rv_b (decide_eq_false (show ¬ ((w0 :: w1 :: w2 :: w3 :: r).length : Int) < 4 by omega))))) fun _ => et_or (a := true) (b := true) (et_is (et_test (ev_op (ev_op (ev_var rfl) ev_c (rv_ixL (v := .str (S w1)) (sq_of g1) (show atI _ ((1 : Nat) : Int) = _ from atI_nat rfl))) ev_c (rv_ne rfl))) ((congrArg Bool.not (V_dec w1 [42])).trans (by rw [decide_eq_false h1]; rfl))) (fun h => nomatch h)) (fun _ H2 e2 => s_ret (v := .non) ev_c fun H10 e10 => q .non H10 ((e1.trans e2).trans e10) rfl) (fun h => nomatch h)
    subst h1
    cases hc : inZ (brkT w0) (-1000000) 1000000 with
    | false =>
      rw [rd_out (ws := w0 :: [42] :: w2 :: w3 :: r) hc] at q
      exact q_when (b := true) (et_or (a := false) (b := true) (et_test (ev_op (ev_is (ev_len (ev_var rfl) (sq_of g1)) (by rw [vs_len])) ev_c (rv_b (decide_eq_false (show ¬ ((w0 :: [42] :: w2 :: w3 :: r).length : Int) < 4 by omega))))) fun _ => et_or (a := false) (b := true) (et_is (et_test (ev_op (ev_op (ev_var rfl) ev_c (rv_ixL (v := .str (S [42])) (sq_of g1) (show atI _ ((1 : Nat) : Int) = _ from atI_nat rfl))) ev_c (rv_ne rfl))) (congrArg Bool.not (V_dec [42] [42]))) fun _ => et_not (a := false) (et_B (ev_is (ev_call (ea_cons (ev_call (ea_cons (ev_op (ev_var rfl) ev_c (rv_ixL (v := .str (S w0)) (sq_of g1) (show atI _ ((0 : Nat) : Int) = _ from atI_nat rfl))) ea_nil) (v_brk_of l0 o0)) (ea_cons (ev_neg p6) (ea_cons p6 ea_nil))) v_within) (by rw [hc])))) (fun _ H2 e2 => s_ret (v := .non) ev_c fun H10 e10 => q .non H10 ((e1.trans e2).trans e10) rfl) (fun h => nomatch h)
    | true =>
      refine q_when (b := false) (et_or (a := false) (b := false) (et_test (ev_op (ev_is (ev_len (ev_var rfl) (sq_of g1)) (by rw [vs_len])) ev_c (rv_b (decide_eq_false (show ¬ ((w0 :: [42] :: w2 :: w3 :: r).length : Int) < 4 by omega))))) fun _ => et_or (a := false) (b := false) (et_is (et_test (ev_op (ev_op (ev_var rfl) ev_c (rv_ixL (v := .str (S [42])) (sq_of g1) (show atI _ ((1 : Nat) : Int) = _ from atI_nat rfl))) ev_c (rv_ne rfl))) (congrArg Bool.not (V_dec [42] [42]))) fun _ => et_not (a := true) (et_B (ev_is (ev_call (ea_cons (ev_call (ea_cons (ev_op (ev_var rfl) ev_c (rv_ixL (v := .str (S w0)) (sq_of g1) (show atI _ ((0 : Nat) : Int) = _ from atI_nat rfl))) ea_nil) (v_brk_of l0 o0)) (ea_cons (ev_neg p6) (ea_cons p6 ea_nil))) v_within) (by rw [hc])))) (fun h => nomatch h) fun _ H2 e2 => ?_
      obtain ⟨c, hcw⟩ := inZ_some hc
      have g2 := e2 _ _ g1
      refine q_asg (v := .int c) (ev_is (ev_call (ea_cons (ev_op (ev_var rfl) ev_c (rv_ixL (v := .str (S w0)) (sq_of g2) (show atI _ ((0 : Nat) : Int) = _ from atI_nat rfl))) ea_nil) (v_brk_of l0 o0)) (by rw [hcw]; rfl)) fun H3 e3 => ?_
      have g3 := e3 _ _ g2
      have e13 := (e1.trans e2).trans e3
      have li : ((vs (w0 :: [42] :: w2 :: w3 :: r)).length : Int) = (r.length : Int) + 4 := by
        rw [vs_len]
        rfl
      cases r with
      | nil =>
        rw [rd_four hc, hcw] at q
        refine q_when (b := true) (et_is (et_test (ev_op (ev_len (ev_var rfl) (sq_of g3)) ev_c (rv_eq rfl))) rfl) (fun _ H4 e4 => ?_) (fun h => nomatch h)
        have g4 := e4 _ _ g3
        refine q_asg (v := optI (natI w3)) (ev_is (ev_call (ea_cons (ev_op (ev_var rfl) ev_c (rv_ixL (v := .str (S w3)) (sq_of g4) (show atI _ ((3 : Nat) : Int) = _ from atI_nat rfl))) ea_nil) (v_digits l3 o3)) (optI_natI w3).symm) fun H5 e5 => ?_
        have g5 := e5 _ _ g4
        have e15 := (e13.trans e4).trans e5
        generalize natI w3 = oz at q
        by_cases h2 : w2 = [114, 105, 110, 103]
        · rw [if_pos h2] at q
          by_cases hz : inZ oz (1) 300 = true
          · obtain ⟨z, rfl⟩ := inZ_some hz
            rw [hz] at q
            exact (ed_ifT (P := fun v H2 => TV v H2 (some ⟨1, c, z⟩)) (et_and (a := true) (b := true) (et_is (et_test (ev_op (ev_op (ev_var rfl) ev_c (rv_ixL (v := .str (S w2)) (sq_of g5) (show atI _ ((2 : Nat) : Int) = _ from atI_nat rfl))) ev_c (rv_eq rfl))) ((V_dec w2 [114, 105, 110, 103]).trans (decide_eq_true h2))) fun _ => (et_B (ev_is (ev_call (ea_cons (ev_var rfl) (ea_cons ev_c (ea_cons ev_c ea_nil))) (v_within (o := some z) (lo := (1)) (hi := 300))) (by rw [hz])))) (fun H9 e9 => ep_U (eu_tup (ea_cons ev_c (ea_cons (ev_var rfl) (ea_cons (ev_var rfl) ea_nil))) (by show 3 ≤ 100000; decide)) fun p H1 H2 _ _ _ g => ⟨p, rfl, g⟩)) _ (Ex.refl _) _ fun v H10 e10 pv => q v H10 (e15.trans e10) pv
          · have hz' := Bool.eq_false_iff.mpr hz
            rw [hz', mk_none] at q
            exact s_ret (v := .non) (ev_if (b := false) (et_and (a := true) (b := false) (et_is (et_test (ev_op (ev_op (ev_var rfl) ev_c (rv_ixL (v := .str (S w2)) (sq_of g5) (show atI _ ((2 : Nat) : Int) = _ from atI_nat rfl))) ev_c (rv_eq rfl))) ((V_dec w2 [114, 105, 110, 103]).trans (decide_eq_true h2))) fun _ => (et_B (ev_is (ev_call (ea_cons (ev_var rfl) (ea_cons ev_c (ea_cons ev_c ea_nil))) (v_within (o := oz) (lo := (1)) (hi := 300))) (by rw [hz'])))) (fun h => nomatch h) (fun _ => ev_c)) fun H10 e10 => q .non H10 (e15.trans e10) rfl
        · rw [if_neg h2] at q
          exact s_ret (v := .non) (ev_if (b := false) (et_and (a := false) (b := false) (et_is (et_test (ev_op (ev_op (ev_var rfl) ev_c (rv_ixL (v := .str (S w2)) (sq_of g5) (show atI _ ((2 : Nat) : Int) = _ from atI_nat rfl))) ev_c (rv_eq rfl))) ((V_dec w2 [114, 105, 110, 103]).trans (decide_eq_false h2))) (fun h => nomatch h)) (fun h => nomatch h) (fun _ => ev_c)) fun H10 e10 => q .non H10 (e15.trans e10) rfl
      | cons w4 r =>
        refine q_when (b := false) (et_is (et_test (ev_op (ev_len (ev_var rfl) (sq_of g3)) ev_c (rv_eq rfl))) (decide_eq_false fun z => by
          have := V.int.inj z
          rw [li, List.length_cons] at this
          omega)) (fun h => nomatch h) fun _ H4 e4 => ?_
        have g4 := e4 _ _ g3
        have e14 := e13.trans e4
        have o4 := wok w4 (by simp)
        have l4 := hp w4 (by simp)
        cases r with
        | cons w5 r =>
          rw [rd_more (by simp only [List.length_cons]; omega)] at q
          exact q_when (b := true) (et_or (a := true) (b := true) (et_test (ev_op (ev_len (ev_var rfl) (sq_of g4)) ev_c (rv_b (decide_eq_true (by rw [li]; simp only [List.length_cons]; omega))))) (fun h => nomatch h)) (fun _ H5 e5 => s_ret (v := .non) ev_c fun H10 e10 => q .non H10 ((e14.trans e5).trans e10) rfl) (fun h => nomatch h)
        | nil =>
          by_cases h3 : w3 = [94]
          case neg =>
            rw [rd_hat h3] at q
            exact q_when (b := true) (et_or (a := false) (b := true) (et_test (ev_op (ev_len (ev_var rfl) (sq_of g4)) ev_c (rv_b (decide_eq_false (by rw [li]; simp))))) fun _ => et_is (et_test (ev_op (ev_op (ev_var rfl) ev_c (rv_ixL (v := .str (S w3)) (sq_of g4) (show atI _ ((3 : Nat) : Int) = _ from atI_nat rfl))) ev_c (rv_ne rfl))) ((congrArg Bool.not (V_dec w3 [94])).trans (by rw [decide_eq_false h3]; rfl))) (fun _ H5 e5 => s_ret (v := .non) ev_c fun H10 e10 => q .non H10 ((e14.trans e5).trans e10) rfl) (fun h => nomatch h)
          subst h3
          refine q_when (b := false) (et_or (a := false) (b := false) (et_test (ev_op (ev_len (ev_var rfl) (sq_of g4)) ev_c (rv_b (decide_eq_false (by rw [li]; simp))))) fun _ => et_is (et_test (ev_op (ev_op (ev_var rfl) ev_c (rv_ixL (v := .str (S [94])) (sq_of g4) (show atI _ ((3 : Nat) : Int) = _ from atI_nat rfl))) ev_c (rv_ne rfl))) (congrArg Bool.not (V_dec [94] [94]))) (fun h => nomatch h) fun _ H5 e5 => ?_
          have g5 := e5 _ _ g4
          have e15 := e14.trans e5
          rw [rd_five hc, hcw] at q
          by_cases h2 : w2 = [110]
          · rw [if_pos h2] at q
            refine q_when (b := true) (et_is (et_test (ev_op (ev_op (ev_var rfl) ev_c (rv_ixL (v := .str (S w2)) (sq_of g5) (show atI _ ((2 : Nat) : Int) = _ from atI_nat rfl))) ev_c (rv_eq rfl))) ((V_dec w2 [110]).trans (decide_eq_true h2))) (fun _ H6 e6 => ?_) (fun h => nomatch h)
            have g6 := e6 _ _ g5
            refine q_asg (v := optI (natI w4)) (ev_is (ev_call (ea_cons (ev_op (ev_var rfl) ev_c (rv_ixL (v := .str (S w4)) (sq_of g6) (show atI _ ((4 : Nat) : Int) = _ from atI_nat rfl))) ea_nil) (v_digits l4 o4)) (optI_natI w4).symm) fun H7 e7 => ?_
            have e17 := (e15.trans e6).trans e7
            generalize natI w4 = oz at q
            by_cases hz : inZ oz (1) 6 = true
            · obtain ⟨z, rfl⟩ := inZ_some hz
              rw [hz] at q
              exact (ed_ifT (P := fun v H2 => TV v H2 (some ⟨2, c, z⟩)) (et_B (ev_is (ev_call (ea_cons (ev_var rfl) (ea_cons ev_c (ea_cons ev_c ea_nil))) (v_within (o := some z) (lo := (1)) (hi := 6))) (by rw [hz]))) (fun H9 e9 => ep_U (eu_tup (ea_cons ev_c (ea_cons (ev_var rfl) (ea_cons (ev_var rfl) ea_nil))) (by show 3 ≤ 100000; decide)) fun p H1 H2 _ _ _ g => ⟨p, rfl, g⟩)) _ (Ex.refl _) _ fun v H10 e10 pv => q v H10 (e17.trans e10) pv
            · have hz' := Bool.eq_false_iff.mpr hz
              rw [hz', mk_none] at q
              exact s_ret (v := .non) (ev_if (b := false) (et_B (ev_is (ev_call (ea_cons (ev_var rfl) (ea_cons ev_c (ea_cons ev_c ea_nil))) (v_within (o := oz) (lo := (1)) (hi := 6))) (by rw [hz']))) (fun h => nomatch h) (fun _ => ev_c)) fun H10 e10 => q .non H10 (e17.trans e10) rfl
          · rw [if_neg h2] at q
            refine q_when (b := false) (et_is (et_test (ev_op (ev_op (ev_var rfl) ev_c (rv_ixL (v := .str (S w2)) (sq_of g5) (show atI _ ((2 : Nat) : Int) = _ from atI_nat rfl))) ev_c (rv_eq rfl))) ((V_dec w2 [110]).trans (decide_eq_false h2))) (fun h => nomatch h) fun _ H6 e6 => ?_
            have g6 := e6 _ _ g5
            refine q_asg (v := optI (brkT w2)) (ev_call (ea_cons (ev_op (ev_var rfl) ev_c (rv_ixL (v := .str (S w2)) (sq_of g6) (show atI _ ((2 : Nat) : Int) = _ from atI_nat rfl))) ea_nil) (v_brk_of l2 o2)) fun H7 e7 => ?_
            have g7 := e7 _ _ g6
            have e17 := (e15.trans e6).trans e7
            generalize brkT w2 = oz at q
            by_cases h4' : w4 = [110]
            · rw [if_pos h4'] at q
              by_cases hz : inZ oz (-40) 40 = true
              · obtain ⟨z, rfl⟩ := inZ_some hz
                rw [hz] at q
                exact (ed_ifT (P := fun v H2 => TV v H2 (some ⟨0, c, z⟩)) (et_and (a := true) (b := true) (et_is (et_test (ev_op (ev_op (ev_var rfl) ev_c (rv_ixL (v := .str (S w4)) (sq_of g7) (show atI _ ((4 : Nat) : Int) = _ from atI_nat rfl))) ev_c (rv_eq rfl))) ((V_dec w4 [110]).trans (decide_eq_true h4'))) fun _ => (et_B (ev_is (ev_call (ea_cons (ev_var rfl) (ea_cons (ev_neg ev_c) (ea_cons ev_c ea_nil))) (v_within (o := some z) (lo := (-40)) (hi := 40))) (by rw [hz])))) (fun H9 e9 => ep_U (eu_tup (ea_cons ev_c (ea_cons (ev_var rfl) (ea_cons (ev_var rfl) ea_nil))) (by show 3 ≤ 100000; decide)) fun p H1 H2 _ _ _ g => ⟨p, rfl, g⟩)) _ (Ex.refl _) _ fun v H10 e10 pv => q v H10 (e17.trans e10) pv
              · have hz' := Bool.eq_false_iff.mpr hz
                rw [hz', mk_none] at q
                exact s_ret (v := .non) (ev_if (b := false) (et_and (a := true) (b := false) (et_is (et_test (ev_op (ev_op (ev_var rfl) ev_c (rv_ixL (v := .str (S w4)) (sq_of g7) (show atI _ ((4 : Nat) : Int) = _ from atI_nat rfl))) ev_c (rv_eq rfl))) ((V_dec w4 [110]).trans (decide_eq_true h4'))) fun _ => (et_B (ev_is (ev_call (ea_cons (ev_var rfl) (ea_cons (ev_neg ev_c) (ea_cons ev_c ea_nil))) (v_within (o := oz) (lo := (-40)) (hi := 40))) (by rw [hz'])))) (fun h => nomatch h) (fun _ => ev_c)) fun H10 e10 => q .non H10 (e17.trans e10) rfl
            · rw [if_neg h4'] at q
              exact s_ret (v := .non) (ev_if (b := false) (et_and (a := false) (b := false) (et_is (et_test (ev_op (ev_op (ev_var rfl) ev_c (rv_ixL (v := .str (S w4)) (sq_of g7) (show atI _ ((4 : Nat) : Int) = _ from atI_nat rfl))) ev_c (rv_eq rfl))) ((V_dec w4 [110]).trans (decide_eq_false h4'))) (fun h => nomatch h)) (fun h => nomatch h) (fun _ => ev_c)) fun H10 e10 => q .non H10 (e17.trans e10) rfl
/-! ### _law_spoilt -/
theorem ew_oneS {K : PySem.W.Frag} {σ : L2.St} {H : Hp} {a : Addr} {i : Nat} {tl : TE} {E : XK} {l : List Nat} (hσ : σ[i]? = some (some (.ref a))) (h : Ev tl σ (hid a H) (.str (S l))) (h0 : 0 < l.length) (h1 : l.length ≤ 1000) : EvW a 1 (tCall (sp_law_one_ofS K) [] E (tCons (tVar i) (tCons tl tNil))) σ H (fun v => ∃ c, v = .str (S [c]) ∧ c ∈ l) := fun m H1 b w l1 Q q =>
  ⟨.ref a, hσ, h H1 (ex_hid b) _ fun H2 e2 => ⟨a, l, m, rfl, w.ex e2, by omega, h0, h1, fun c H3 hc b3 w3 => q _ H3 ((But.ex e2).trans b3) w3 ⟨c, rfl, hc⟩⟩⟩
def sp_law_spoilt (K : PySem.W.Frag) : Sp := fun us H Q _ => ∃ (a : Addr) (l : List Nat) (n : Nat), us = [.ref a, .str (S l)] ∧ Well H a n ∧ n + 10 ≤ 2 ^ 50 ∧ 0 < l.length ∧ l.length ≤ 30000 ∧ okS l ∧ (∀ p ∈ prts [32, 43, 32] l, p.length ≤ 40) ∧ ∀ l' H2, okS l' → l'.length ≤ l.length + 64 → But a H H2 → Q (.str (S l')) H2
theorem ok_law_spoilt (T : Txt K mg) : FnG PP w K mg base CX0 4 T.a_law_spoilt T.d_law_spoilt ["well", "value"] (sp_law_spoilt K) := by
  refine okG T.F_law_spoilt sc_law_spoilt (fun vs H Q E h => ?_) (fun cdv A out s H vs Q E hr h => ?_)
  · obtain ⟨a, l, n, rfl, hw, hn, h0, h1, ok, hp, q⟩ := h
    rfl
  · obtain ⟨a, l, n, rfl, hw, hn, h0, h1, ok, hp, q⟩ := h
    refine ⟨_, (pss_cons (ps_par3 (i := 2) (j := 3) (l := 4) (by rfl) sc_law_spoilt.nd rfl rfl rfl (by decide) (by decide) (by decide) rfl rfl rfl (pa_cons (callG (ok_law_pull T) (hr.mono (by decide)) (by rfl) T.g_law_pull T.F_law_pull.kp (b_law_pull T) .nil pass0 (pa_cons (pv 0) (pa_cons pe_int pa_nil))) (pa_cons (callG (ok_law_pull T) (hr.mono (by decide)) (by rfl) T.g_law_pull T.F_law_pull.kp (b_law_pull T) .nil pass0 (pa_cons (pv 0) (pa_cons (pe_callB call_len_str (by rfl) T.z_len bt_len (pa_cons (pv 1) pa_nil)) pa_nil))) (pa_cons (pe_m1 PySem.F.slot_str_split PySem.F.type_str_split mt_splitR (pv 1) pe_str) pa_nil))) (by rfl))
    (pss_cons (ps_set (i := 5) sc_law_spoilt.nd rfl (.inl rfl) (callG (ok_law_one_ofS T) (hr.mono (by decide)) (by rfl) T.g_law_one_of T.F_law_one_of.kp (b_law_one_of T) .nil pass0 (pa_cons (pv 0) (pa_cons pe_str pa_nil))))
    (pss_cons (ps_par (i := 6) (j := 7) (by rfl) sc_law_spoilt.nd rfl rfl (by decide) rfl rfl (pa_cons (callG (ok_law_pull T) (hr.mono (by decide)) (by rfl) T.g_law_pull T.F_law_pull.kp (b_law_pull T) .nil pass0 (pa_cons (pv 0) (pa_cons (pe_callB (call_lenK (K := K) rfl) (by rfl) T.z_len bt_len (pa_cons (pv 4) pa_nil)) pa_nil))) (pa_cons (callG (ok_law_pull T) (hr.mono (by decide)) (by rfl) T.g_law_pull T.F_law_pull.kp (b_law_pull T) .nil pass0 (pa_cons (pv 0) (pa_cons (pe_callB (call_lenK (K := K) rfl) (by rfl) T.z_len bt_len (pa_cons (pv 4) pa_nil)) pa_nil))) pa_nil)) (by rfl))
    (pss_cons (ps_if (pt_cmpR op_lt (pv 2) pe_int (nomark _))
      (pss_one (ps_ret (pe_op op_add_str (pe_slice sl_str (pv 1) po_none (po_some (pv 3))) (pe_slice sl_str (pv 1) (po_some (pe_op op_add (pv 3) pe_int)) po_none))))
      pss_nil)
    (pss_cons (ps_if (pt_cmpR op_lt (pv 2) pe_int (nomark _))
      (pss_one (ps_ret (pe_op op_add_str (pe_op op_add_str (pe_slice sl_str (pv 1) po_none (po_some (pv 3))) (pv 5)) (pe_slice sl_str (pv 1) (po_some (pv 3)) po_none))))
      pss_nil)
    (pss_cons (ps_if (pt_cmpR op_eq (pv 2) pe_int (nomark _))
      (pss_one (ps_ret (pe_op op_add_str (pe_op op_add_str (pe_slice sl_str (pv 1) po_none (po_some (pv 3))) (pv 5)) (pe_slice sl_str (pv 1) (po_some (pe_op op_add (pv 3) pe_int)) po_none))))
      pss_nil)
    (pss_cut (ps_if (pt_cmpR op_eq (pv 2) pe_int (nomark _))
      (pss_cons (ps_set (i := 8) sc_law_spoilt.nd rfl (.inl rfl) (pe_ix (ix_listK (K := K) rfl) (pv 4) (pv 6) (fun _ _ => rfl)))
      (pss_cons (ps_asg (pe_ix (ix_listK (K := K) rfl) (pv 4) (pv 7) (fun _ _ => rfl)) (pg_sub (pv 4) (pv 6) set_list))
      (pss_one (ps_asg (pv 8) (pg_sub (pv 4) (pv 7) set_list)))))
      (pss_one (ps_if (pt_cmpR op_eq (pv 2) pe_int (nomark _))
        (pss_one (ps_expr (pe_bm PySem.F.plainAttrs_list PySem.F.slot_list_pop PySem.F.type_list_pop mt_popAt (pv 4) (pa_cons (pv 6) pa_nil))))
        (pss_one (ps_if (pt_cmpR op_eq (pv 2) pe_int (nomark _))
          (pss_one (ps_expr (pe_bm PySem.F.plainAttrs_list PySem.F.slot_list_insert PySem.F.type_list_insert mt_insertR (pv 4) (pa_cons (pv 7) (pa_cons (pe_ix (ix_listK (K := K) rfl) (pv 4) (pv 6) (fun _ _ => rfl)) pa_nil)))))
          (pss_cons (ps_par (i := 9) (j := 10) (by rfl) sc_law_spoilt.nd rfl rfl (by decide) rfl rfl (pa_cons (pe_m1 PySem.F.slot_str_split PySem.F.type_str_split mt_splitR (pe_ix (ix_listK (K := K) rfl) (pv 4) (pv 6) (fun _ _ => rfl)) pe_str) (pa_cons (pe_m1 PySem.F.slot_str_split PySem.F.type_str_split mt_splitR (pe_ix (ix_listK (K := K) rfl) (pv 4) (pv 7) (fun _ _ => rfl)) pe_str) pa_nil)) (by rfl))
          (pss_cons (ps_asg (pe_ix (ix_listK (K := K) rfl) (pv 10) (callG (ok_law_pull T) (hr.mono (by decide)) (by rfl) T.g_law_pull T.F_law_pull.kp (b_law_pull T) .nil pass0 (pa_cons (pv 0) (pa_cons (pe_callB (call_lenK (K := K) rfl) (by rfl) T.z_len bt_len (pa_cons (pv 10) pa_nil)) pa_nil))) (fun _ _ => rfl)) (pg_sub (pv 9) (callG (ok_law_pull T) (hr.mono (by decide)) (by rfl) T.g_law_pull T.F_law_pull.kp (b_law_pull T) .nil pass0 (pa_cons (pv 0) (pa_cons (pe_callB (call_lenK (K := K) rfl) (by rfl) T.z_len bt_len (pa_cons (pv 9) pa_nil)) pa_nil))) set_list))
          (pss_one (ps_asg (pe_m1 PySem.F.slot_str_join PySem.F.type_str_join (mt_joinK (K := K) rfl) pe_str (pv 9)) (pg_sub (pv 4) (pv 6) set_list))))))))))
    (pss_one (ps_ret (pe_m1 PySem.F.slot_str_join PySem.F.type_str_join (mt_joinK (K := K) rfl) pe_str (pv 4))))))))))), ?_⟩
    have l24 : (S l).length ≤ sizeLine := by rw [S_len]; show _ ≤ 2 ^ 24; omega
    have cnt := prts_count (sep := [32, 43, 32]) (l := l) (by decide) (by decide)
    have pos : 0 < (prts [32, 43, 32] l).length := List.length_pos_iff.mpr (prts_ne [32, 43, 32] l)
    have lsz := parts_sz3 l
    have okp := okS_prts3 ok
    refine qw_par3VVL (PA := fun v => ∃ r : Int, v = .int r ∧ 0 ≤ r ∧ r < 9) (PB := fun v => ∃ r : Int, v = .int r ∧ 0 ≤ r ∧ r < (l.length : Int)) (PC := fun zs => zs = vs (prts [32, 43, 32] l)) (ew_drawC (m := 9) rfl ev_c (by decide) (lt8000 (by decide))) (ew_drawC (m := (l.length : Int)) rfl (ev_is (ev_lenS (ev_var rfl) l24) (by rw [S_len])) (by omega) (lt8000 (Int.lt_of_le_of_lt (show (l.length : Int) ≤ 30000 by omega) (by decide)))) (ewl_pure (el_is (el_split (ev_var rfl) ev_c (b := S [32, 43, 32]) (by rw [S_len]; rfl) (by rw [S_len]; show _ ≤ 2 ^ 24; omega)) (by rw [prts_S (by decide) (by decide)]; unfold vs; rw [List.map_map]; rfl)) rfl) hw (by omega) ?_
    rintro _ _ pp _ H1 hpp b1 w1 ⟨way, rfl, y0, y1⟩ ⟨r, rfl, r0, r1⟩ gp rfl
    obtain ⟨pl, rfl⟩ : ∃ pl : Nat, r = pl := ⟨r.toNat, by omega⟩
    have np := hw.ne hpp
    have lp : ∀ {H' : Hp} {σ' : L2.St}, H' pp = some (.lst (vs (prts [32, 43, 32] l))) → σ'[4]? = some (some (.ref pp)) → Ev (tCB (rLenS K) (tCons (tVar 4) tNil)) σ' H' (.int ((prts [32, 43, 32] l).length : Int)) := fun g h => ev_is (ev_len (ev_var h) (sq_of g)) (by unfold vs; rw [List.length_map])
    refine qw_asg (P := fun v => ∃ c, v = .str (S [c]) ∧ c ∈ spS3) (ew_oneS rfl ev_c (by decide) (by decide)) w1 (by omega) ?_
    rintro _ H2 b2 w2 ⟨c, rfl, hc⟩
    have okc := spS_ok3 hc
    have g2 := b2 _ _ np gp
    refine qw_parVV (PA := fun v => ∃ r : Int, v = .int r ∧ 0 ≤ r ∧ r < ((prts [32, 43, 32] l).length : Int)) (PB := fun v => ∃ r : Int, v = .int r ∧ 0 ≤ r ∧ r < ((prts [32, 43, 32] l).length : Int)) (ew_drawC rfl (lp (by rw [hid_ne np]; exact g2) rfl) (by omega) (lt8000 (Int.lt_of_le_of_lt (show ((prts [32, 43, 32] l).length : Int) ≤ 30001 by omega) (by decide)))) (ew_drawC rfl (lp (by rw [hid_ne np]; exact g2) rfl) (by omega) (lt8000 (Int.lt_of_le_of_lt (show ((prts [32, 43, 32] l).length : Int) ≤ 30001 by omega) (by decide)))) w2 (by omega) ?_
    rintro _ _ H3 b3 w3 ⟨f, rfl, f0, f1⟩ ⟨s, rfl, s0, s1⟩
    obtain ⟨f, rfl⟩ : ∃ k : Nat, f = k := ⟨f.toNat, by omega⟩
    obtain ⟨s, rfl⟩ : ∃ k : Nat, s = k := ⟨s.toNat, by omega⟩
    have g3 := b3 _ _ np g2
    have b13 := (b1.trans b2).trans b3
    have hf : f < (prts [32, 43, 32] l).length := by omega
    have hs : s < (prts [32, 43, 32] l).length := by omega
    have pf : (prts [32, 43, 32] l)[f]? = some (prts [32, 43, 32] l)[f] := List.getElem?_eq_getElem hf
    have ps : (prts [32, 43, 32] l)[s]? = some (prts [32, 43, 32] l)[s] := List.getElem?_eq_getElem hs
    have mf := List.getElem_mem hf
    have ms := List.getElem_mem hs
    generalize (prts [32, 43, 32] l)[f] = P at pf mf
    generalize (prts [32, 43, 32] l)[s] = R at ps ms
    have hP := hp P mf
    have hR := hp R ms
    generalize prts [32, 43, 32] l = PS at *
    have tk : ∀ {σ' : L2.St} {H'}, σ'[1]? = some (some (.str (S l))) → σ'[3]? = some (some (.int (pl : Int))) → Ev (tSl L2.rSlS (tVar 1) tNoPart (tPart (tVar 3))) σ' H' (.str (S (l.take pl))) := fun h h' => ev_is (ev_slS (ev_var h) eo_none (eo_some (ev_var h')) l24) (congrArg V.str (cut_to l pl))
    have dk : ∀ {σ' : L2.St} {H'}, σ'[1]? = some (some (.str (S l))) → σ'[3]? = some (some (.int (pl : Int))) → Ev (tSl L2.rSlS (tVar 1) (tPart (tVar 3)) tNoPart) σ' H' (.str (S (l.drop pl))) := fun h h' => ev_is (ev_slS (ev_var h) (eo_some (ev_var h')) eo_none l24) (congrArg V.str (cut_from l pl))
    have dk1 : ∀ {σ' : L2.St} {H'}, σ'[1]? = some (some (.str (S l))) → σ'[3]? = some (some (.int (pl : Int))) → Ev (tSl L2.rSlS (tVar 1) (tPart (tOp (rI0 fun i j => .int (i + j)) (tVar 3) (tC (.int 1)))) tNoPart) σ' H' (.str (S (l.drop (pl + 1)))) := fun h h' => ev_is (ev_slS (ev_var h) (eo_some (ev_op (ev_var h') ev_c rv_I0)) eo_none l24) (congrArg V.str (cut_from l (pl + 1)))
    have lt1 : (l.take pl).length + (l.drop pl).length = l.length := by rw [← List.length_append, List.take_append_drop]
    have lt2 : (l.drop (pl + 1)).length ≤ (l.drop pl).length := by rw [List.length_drop, List.length_drop]; omega
    by_cases c2 : way < 2
    · exact q_when (b := true) (et_test (ev_op (ev_var rfl) ev_c (rv_b (decide_eq_true c2)))) (fun _ H4 e4 => s_ret (ev_addT (tk rfl rfl) (dk1 rfl rfl) (by omega)) fun H5 e5 => q _ H5 (okS_app (okS_take ok _) (okS_drop ok _)) (by rw [List.length_append]; omega) (b13.trans (But.ex (e4.trans e5)))) (fun h => nomatch h)
    refine q_when (b := false) (et_test (ev_op (ev_var rfl) ev_c (rv_b (decide_eq_false c2)))) (fun h => nomatch h) fun _ H4 e4 => ?_
    by_cases c4 : way < 4
    · exact q_when (b := true) (et_test (ev_op (ev_var rfl) ev_c (rv_b (decide_eq_true c4)))) (fun _ H5 e5 => s_ret (ev_addT (ev_addT (tk rfl rfl) (ev_var rfl) (by show _ + 1 ≤ _; omega)) (dk rfl rfl) (by rw [List.length_append]; show _ + 1 + _ ≤ _; omega)) fun H6 e6 => q _ H6 (okS_app (okS_app (okS_take ok _) okc) (okS_drop ok _)) (by rw [List.length_append, List.length_append]; show _ + 1 + _ ≤ _; omega) (b13.trans (But.ex (e4.trans (e5.trans e6))))) (fun h => nomatch h)
    refine q_when (b := false) (et_test (ev_op (ev_var rfl) ev_c (rv_b (decide_eq_false c4)))) (fun h => nomatch h) fun _ H5 e5 => ?_
    by_cases c5 : way = 4
    · exact q_when (b := true) (et_is (et_test (ev_op (ev_var rfl) ev_c (rv_eq rfl))) (by rw [c5]; rfl)) (fun _ H6 e6 => s_ret (ev_addT (ev_addT (tk rfl rfl) (ev_var rfl) (by show _ + 1 ≤ _; omega)) (dk1 rfl rfl) (by rw [List.length_append]; show _ + 1 + _ ≤ _; omega)) fun H7 e7 => q _ H7 (okS_app (okS_app (okS_take ok _) okc) (okS_drop ok _)) (by rw [List.length_append, List.length_append]; show _ + 1 + _ ≤ _; omega) (b13.trans (But.ex ((e4.trans e5).trans (e6.trans e7))))) (fun h => nomatch h)
    have ni : ∀ {k : Int}, way ≠ k → decide (V.int way = V.int k) = false := fun h => decide_eq_false fun z => h (V.int.inj z)
    refine q_when (b := false) (et_is (et_test (ev_op (ev_var rfl) ev_c (rv_eq rfl))) (ni c5)) (fun h => nomatch h) fun _ H6 e6 => ?_
    have e36 := (e4.trans e5).trans e6
    have g6 := e36 _ _ g3
    have hppN : H pp = none := hpp
    refine q_cut (M := fun σ' H' => ∃ (zs : List (List Nat)) (y y' y'' : Option V), σ' = [some (.ref a), some (.str (S l)), some (.int way), some (.int (pl : Int)), some (.ref pp), some (.str (S [c])), some (.int (f : Int)), some (.int (s : Int)), y, y', y''] ∧ But a H H' ∧ H' pp = some (.lst (vs zs)) ∧ (∀ p ∈ zs, okS p) ∧ sz zs + 3 * zs.length ≤ l.length + 64) ?_ ?_
    · by_cases c5 : way = 5
      · refine s_if (b := true) (et_is (et_test (ev_op (ev_var rfl) ev_c (rv_eq rfl))) (by rw [c5]; rfl)) (fun _ H7 e7 => ?_) (fun h => nomatch h)
        have g7 := e7 _ _ g6
        refine q_asg (v := .str (S P)) (ev_op (ev_var rfl) (ev_var rfl) (rv_ixL (sq_of g7) (atI_nat (vs_get pf)))) fun H8 e8 => ?_
        have g8 := e8 _ _ g7
        refine q_setL (v := .str (S R)) g8 (ev_op (ev_var rfl) (ev_var rfl) (rv_ixL (sq_of g8) (atI_nat (vs_get ps)))) (ev_var rfl) (ev_var rfl) (by rw [vs_len]; exact hf) fun H9 e9 => ?_
        refine s_setL (v := .str (S P)) upd_same (ev_var rfl) (ev_var rfl) (ev_var rfl) (by rw [List.length_set, vs_len]; exact hs) fun H10 e10 => ?_
        rw [vs_set, vs_set]
        refine ⟨_, _, _, _, rfl, ((((b13.trans (But.ex (e36.trans (e7.trans (e8.trans e9))))).own hppN).trans (But.ex e10)).own hppN), upd_same, fun p hp' => ?_, ?_⟩
        · rcases List.mem_or_eq_of_mem_set hp' with h | h
          · rcases List.mem_or_eq_of_mem_set h with h | h
            · exact okp p h
            · rw [h]
              exact okp R ms
          · rw [h]
            exact okp P mf
        · rw [swap_sz pf ps, List.length_set, List.length_set]
          omega
      · refine s_if (b := false) (et_is (et_test (ev_op (ev_var rfl) ev_c (rv_eq rfl))) (ni c5)) (fun h => nomatch h) (fun _ H7 e7 => ?_)
        have g7 := e7 _ _ g6
        by_cases c6 : way = 6
        · refine s_if (b := true) (et_is (et_test (ev_op (ev_var rfl) ev_c (rv_eq rfl))) (by rw [c6]; rfl)) (fun _ H8 e8 => ?_) (fun h => nomatch h)
          have g8 := e8 _ _ g7
          refine s_popAt g8 (ev_var rfl) (ev_var rfl) (by rw [vs_len]; exact hf) (by rw [vs_len]; omega) fun H9 e9 => ?_
          rw [vs_erase]
          refine ⟨_, _, _, _, rfl, (b13.trans (But.ex (e36.trans (e7.trans (e8.trans e9))))).own hppN, upd_same, fun p hp' => okp p (List.mem_of_mem_eraseIdx hp'), ?_⟩
          have := sz_erase PS f
          have := List.length_eraseIdx_le PS f
          omega
        · refine s_if (b := false) (et_is (et_test (ev_op (ev_var rfl) ev_c (rv_eq rfl))) (ni c6)) (fun h => nomatch h) (fun _ H8 e8 => ?_)
          have g8 := e8 _ _ g7
          by_cases c7 : way = 7
          · refine s_if (b := true) (et_is (et_test (ev_op (ev_var rfl) ev_c (rv_eq rfl))) (by rw [c7]; rfl)) (fun _ H9 e9 => ?_) (fun h => nomatch h)
            have g9 := e9 _ _ g8
            refine s_insert (i := s) g9 (ev_var rfl) (ev_var rfl) (ev_op (ev_var rfl) (ev_var rfl) (rv_ixL (sq_of g9) (atI_nat (vs_get pf)))) (by rw [vs_len]; omega) (by omega) fun H10 e10 => ?_
            rw [vs_ins]
            refine ⟨_, _, _, _, rfl, (b13.trans (But.ex ((e36.trans (e7.trans (e8.trans e9))).trans e10))).own hppN, upd_same, fun p hp' => ?_, ?_⟩
            · rcases List.mem_append.mp hp' with h | h
              · rcases List.mem_append.mp h with h | h
                · exact okp p (List.mem_of_mem_take h)
                · rw [List.mem_singleton.mp h]
                  exact okp P mf
              · exact okp p (List.mem_of_mem_drop h)
            · rw [sz_ins, List.length_append, List.length_append, List.length_take, List.length_drop]
              show _ + 3 * (_ + 1 + _) ≤ _
              omega
          · refine s_if (b := false) (et_is (et_test (ev_op (ev_var rfl) ev_c (rv_eq rfl))) (ni c7)) (fun h => nomatch h) (fun _ H9 e9 => ?_)
            have g9 := e9 _ _ g8
            have okP := okp P mf
            have okR := okp R ms
            have e39 := (e36.trans e7).trans (e8.trans e9)
            have w9 := w3.ex e39
            refine q_parLL (xs := vs (prts [32] P)) (ys := vs (prts [32] R)) (el_is (el_split (b := S [32]) (ev_op (ev_var rfl) (ev_var rfl) (rv_ixL (sq_of g9) (atI_nat (vs_get pf)))) ev_c (by rw [S_len]; rfl) (by rw [S_len]; show _ ≤ 2 ^ 24; omega)) (by rw [prts_S (by decide) (by decide)]; unfold vs; rw [List.map_map]; rfl)) (fun wp H10 hwp e10 g10 => (el_is (el_split (b := S [32]) (ev_op (ev_var rfl) (ev_var rfl) (rv_ixL (sq_of (e10 _ _ g9)) (atI_nat (vs_get ps)))) ev_c (by rw [S_len]; rfl) (by rw [S_len]; show _ ≤ 2 ^ 24; omega)) (by rw [prts_S (by decide) (by decide)]; unfold vs; rw [List.map_map]; rfl))) fun wp op H10 hwp hop ne10 e10 g10 g10' => ?_
            have w10 := w9.ex e10
            have nw := w9.ne hwp
            have no := w9.ne hop
            have zP := parts_sz1 P
            have zR := parts_sz1 R
            have cP : 0 < (prts [32] P).length := List.length_pos_iff.mpr (prts_ne [32] P)
            have cR : 0 < (prts [32] R).length := List.length_pos_iff.mpr (prts_ne [32] R)
            have lw : ∀ {j : Nat} {p : Addr} {qs : List (List Nat)} {H' : Hp} {σ' : L2.St}, H' p = some (.lst (vs qs)) → σ'[j]? = some (some (.ref p)) → Ev (tCB (rLenS K) (tCons (tVar j) tNil)) σ' H' (.int (qs.length : Int)) := fun g h => ev_is (ev_len (ev_var h) (sq_of g)) (by rw [vs_len])
            refine qw_setW (P1 := fun v => ∃ X, v = .str (S X) ∧ X ∈ prts [32] R) g10 nw (ew_ixH (P := fun v => ∃ r : Int, v = .int r ∧ 0 ≤ r ∧ r < ((prts [32] R).length : Int)) (ev_var rfl) no g10' (ew_drawC rfl (lw (by rw [hid_ne no]; exact g10') rfl) (by omega) (lt8000 (Int.lt_of_le_of_lt (show ((prts [32] R).length : Int) ≤ 30001 by omega) (by decide)))) ?_) (fun H1 b => ev_var rfl) (EvW.mono (ew_drawC rfl (lw (by rw [hid_ne nw]; exact g10) rfl) (by omega) (lt8000 (Int.lt_of_le_of_lt (show ((prts [32] P).length : Int) ≤ 30001 by omega) (by decide)))) ?_) w10 (by omega) ?_
            · rintro v ⟨r, rfl, r0, r1⟩
              obtain ⟨m, rfl⟩ : ∃ m : Nat, r = m := ⟨r.toNat, by omega⟩
              have hm : m < (prts [32] R).length := by omega
              exact ⟨_, _, rfl, atI_nat (vs_get (List.getElem?_eq_getElem hm)), _, rfl, List.getElem_mem hm⟩
            · rintro v ⟨r, rfl, r0, r1⟩
              exact ⟨r, rfl, r0, by rw [vs_len]; exact r1⟩
            rintro _ j H11 b11 g11 ⟨X, rfl, hX⟩ hj
            rw [vs_len] at hj
            rw [vs_set]
            have nwp : wp ≠ pp := fun z => by
              rw [z] at hwp
              rw [g9] at hwp
              cases hwp
            have g12 : upd H11 wp (.lst (vs ((prts [32] P).set j X))) pp = some (.lst (vs PS)) := by
              rw [upd_ne (fun z => nwp z.symm)]
              exact b11 _ _ np (e10 _ _ g9)
            have lX := prts_len (by decide) (by decide) hX
            have lset : ((prts [32] P).set j X).length = (prts [32] P).length := List.length_set
            have szj : sz ((prts [32] P).set j X) ≤ sz (prts [32] P) + X.length := by
              have := sz_set X (List.getElem?_eq_getElem hj)
              omega
            have jl := join_le1 ((prts [32] P).set j X)
            rw [lset] at jl
            have okX : okS X := okS_prts1 okR X hX
            have okJ : okS (TL.joinL [32] ((prts [32] P).set j X)) := okS_join1 fun p hp' => by
              rcases List.mem_or_eq_of_mem_set hp' with h | h
              · exact okS_prts1 okP p h
              · rw [h]
                exact okX
            refine s_setL (v := .str (S (TL.joinL [32] ((prts [32] P).set j X)))) g12 (ev_joinV (sep := [32]) ev_c (ev_var rfl) upd_same (by
              have e2 : ([32] : List Nat).length = 1 := rfl
              rw [e2, lset]
              unfold sz at szj zP
              omega)) (ev_var rfl) (ev_var rfl) (by rw [vs_len]; exact hf) fun H12 e12 => ?_
            rw [vs_set]
            have b12 : But a H (upd H11 wp (.lst (vs ((prts [32] P).set j X)))) := ((b13.trans (But.ex (e39.trans e10))).trans b11).own (but_free b13 w3 (fresh_back e39 hwp))
            refine ⟨_, _, _, _, rfl, (b12.trans (But.ex e12)).own hppN, upd_same, fun p hp' => ?_, ?_⟩
            · rcases List.mem_or_eq_of_mem_set hp' with h | h
              · exact okp p h
              · rw [h]
                exact okJ
            · have := sz_set (TL.joinL [32] ((prts [32] P).set j X)) pf
              rw [List.length_set]
              omega
    rintro σ' H7 ⟨zs, y, y', y'', rfl, b7, g7, ok7, s7⟩
    have jl := join_le3 zs
    refine s_ret (v := .str (S (TL.joinL [32, 43, 32] zs))) (ev_joinV (sep := [32, 43, 32]) ev_c (ev_var rfl) g7 (by
      have e2 : ([32, 43, 32] : List Nat).length = 3 := rfl
      rw [e2]
      unfold sz at s7
      omega)) fun H8 e8 => q _ H8 (okS_join3 ok7) (by omega) (b7.trans (But.ex e8))
/-! ### _term_text -/
def sp_term_text (K : PySem.W.Frag) : Sp := fun vs H Q _ => ∃ (a : Addr) (t : Tm), vs = [.ref a] ∧ SqT K H a (tv t) ∧ TmOk t ∧ RetV (.str (S (tmT t))) H Q
theorem v_term_text {K : PySem.W.Frag} {H : Hp} {a : Addr} {t : Tm} (h : SqT K H a (tv t)) (ok : TmOk t) : SpV (sp_term_text K) [.ref a] H (.str (S (tmT t))) := fun H1 e Q q E => ⟨a, t, rfl, ex_t e h, ok, q⟩
theorem ok_term_text (T : Txt K mg) : FnG PP w K mg base CX0 5 T.a_term_text T.d_term_text ["term"] (sp_term_text K) := by
  refine okG T.F_term_text sc_term_text (fun vs H Q E h => ?_) (fun cdv A out s H vs Q E hr h => ?_)
  · obtain ⟨a, ⟨w, c, z⟩, rfl, hT, ok, q⟩ := h
    rfl
  · obtain ⟨a, ⟨w, c, z⟩, rfl, hT, ok, q⟩ := h
    refine ⟨_, (pss_cons (ps_asg (pv 0) (pg_tup rfl (pgs_cons (pg_name (i := 1) sc_term_text.nd rfl (.inl rfl)) (pgs_cons (pg_name (i := 2) sc_term_text.nd rfl (.inl rfl)) (pgs_cons (pg_name (i := 3) sc_term_text.nd rfl (.inl rfl)) pgs_nil)))))
    (pss_cons (ps_if (pt_cmpR op_eq (pv 1) pe_str (nomark _))
      (pss_one (ps_ret (pe_joined (.cons (pe_fmt (callG (ok_bracketed T) (hr.mono (by decide)) (by rfl) T.g_bracketed T.F_bracketed.kp (b_bracketed T) .nil pass0 (pa_cons (pv 2) pa_nil))) (.cons pe_str (.cons (pe_fmt (callG (ok_bracketed T) (hr.mono (by decide)) (by rfl) T.g_bracketed T.F_bracketed.kp (b_bracketed T) .nil pass0 (pa_cons (pv 3) pa_nil))) (.cons pe_str .nil)))))))
      pss_nil)
    (pss_cons (ps_if (pt_cmpR op_eq (pv 1) pe_str (nomark _))
      (pss_one (ps_ret (pe_joined (.cons (pe_fmt (callG (ok_bracketed T) (hr.mono (by decide)) (by rfl) T.g_bracketed T.F_bracketed.kp (b_bracketed T) .nil pass0 (pa_cons (pv 2) pa_nil))) (.cons pe_str (.cons (pe_fmt (callG (ok_written T) (hr.mono (by decide)) (by rfl) T.g_written T.F_written.kp (b_written T) .nil pass0 (pa_cons (pv 3) pa_nil))) .nil))))))
      pss_nil)
    (pss_one (ps_ret (pe_joined (.cons (pe_fmt (callG (ok_bracketed T) (hr.mono (by decide)) (by rfl) T.g_bracketed T.F_bracketed.kp (b_bracketed T) .nil pass0 (pa_cons (pv 2) pa_nil))) (.cons pe_str (.cons (pe_fmt (callG (ok_written T) (hr.mono (by decide)) (by rfl) T.g_written T.F_written.kp (b_written T) .nil pass0 (pa_cons (pv 3) pa_nil))) .nil))))))))), ?_⟩
    have zb := ok.zb
    replace zb : -1000000000 ≤ c ∧ c ≤ 1000000000 ∧ -1000000000 ≤ z ∧ z ≤ 1000000000 := zb
    obtain ⟨c0, c1, z0, z1⟩ := zb
    have bc := br_small c0 c1
    have bz := br_small z0 z1
    have nz := num_small z0 z1
    have w2 : w < 3 := ok.w2
    refine q_tup3 (ev_var rfl) hT fun H1 e1 => ?_
    match w, w2 with
    | 0, _ =>
      refine q_when (b := true) (et_is (et_test (ev_op (ev_var rfl) ev_c rv_eqS)) (by rfl)) (fun _ H2 e2 => ?_) (fun h => nomatch h)
      exact s_ret (ev_js (ej_cons (a := []) (b := (brT c)) (ev_fmt (ev_call (ea_cons (ev_var rfl) ea_nil) (v_bracketed (n := c) (by omega) (by omega))) (by ((try simp only [List.length_append, List.length_cons, List.length_nil]); omega))) (by ((try simp only [List.length_append, List.length_cons, List.length_nil]); omega)) (ej_cons (a := (brT c)) (b := [32, 42, 32]) ev_c (by ((try simp only [List.length_append, List.length_cons, List.length_nil]); omega)) (ej_cons (a := ((brT c) ++ [32, 42, 32])) (b := (brT z)) (ev_fmt (ev_call (ea_cons (ev_var rfl) ea_nil) (v_bracketed (n := z) (by omega) (by omega))) (by ((try simp only [List.length_append, List.length_cons, List.length_nil]); omega))) (by ((try simp only [List.length_append, List.length_cons, List.length_nil]); omega)) (ej_cons (a := (((brT c) ++ [32, 42, 32]) ++ (brT z))) (b := [32, 94, 32, 110]) ev_c (by ((try simp only [List.length_append, List.length_cons, List.length_nil]); omega)) ej_nil))))) fun H3 e3 => q H3 ((e1.trans e2).trans e3)
    | 1, _ =>
      refine q_when (b := false) (et_is (et_test (ev_op (ev_var rfl) ev_c rv_eqS)) (by rfl)) (fun h => nomatch h) fun _ H2 e2 => ?_
      refine q_when (b := true) (et_is (et_test (ev_op (ev_var rfl) ev_c rv_eqS)) (by rfl)) (fun _ H3 e3 => ?_) (fun h => nomatch h)
      exact s_ret (ev_js (ej_cons (a := []) (b := (brT c)) (ev_fmt (ev_call (ea_cons (ev_var rfl) ea_nil) (v_bracketed (n := c) (by omega) (by omega))) (by ((try simp only [List.length_append, List.length_cons, List.length_nil]); omega))) (by ((try simp only [List.length_append, List.length_cons, List.length_nil]); omega)) (ej_cons (a := (brT c)) (b := [32, 42, 32, 114, 105, 110, 103, 32]) ev_c (by ((try simp only [List.length_append, List.length_cons, List.length_nil]); omega)) (ej_cons (a := ((brT c) ++ [32, 42, 32, 114, 105, 110, 103, 32])) (b := (numT z)) (ev_fmt (ev_call (ea_cons (ev_var rfl) ea_nil) (v_written (n := z) (lt1900 (by omega) (by omega)))) (by ((try simp only [List.length_append, List.length_cons, List.length_nil]); omega))) (by ((try simp only [List.length_append, List.length_cons, List.length_nil]); omega)) ej_nil)))) fun H4 e4 => q H4 (((e1.trans e2).trans e3).trans e4)
    | 2, _ =>
      refine q_when (b := false) (et_is (et_test (ev_op (ev_var rfl) ev_c rv_eqS)) (by rfl)) (fun h => nomatch h) fun _ H2 e2 => ?_
      refine q_when (b := false) (et_is (et_test (ev_op (ev_var rfl) ev_c rv_eqS)) (by rfl)) (fun h => nomatch h) fun _ H3 e3 => ?_
      exact s_ret (ev_js (ej_cons (a := []) (b := (brT c)) (ev_fmt (ev_call (ea_cons (ev_var rfl) ea_nil) (v_bracketed (n := c) (by omega) (by omega))) (by ((try simp only [List.length_append, List.length_cons, List.length_nil]); omega))) (by ((try simp only [List.length_append, List.length_cons, List.length_nil]); omega)) (ej_cons (a := (brT c)) (b := [32, 42, 32, 110, 32, 94, 32]) ev_c (by ((try simp only [List.length_append, List.length_cons, List.length_nil]); omega)) (ej_cons (a := ((brT c) ++ [32, 42, 32, 110, 32, 94, 32])) (b := (numT z)) (ev_fmt (ev_call (ea_cons (ev_var rfl) ea_nil) (v_written (n := z) (lt1900 (by omega) (by omega)))) (by ((try simp only [List.length_append, List.length_cons, List.length_nil]); omega))) (by ((try simp only [List.length_append, List.length_cons, List.length_nil]); omega)) ej_nil)))) fun H4 e4 => q H4 (((e1.trans e2).trans e3).trans e4)
    | w + 3, h => exact absurd h (by omega)
/-! ### _read_term -/
def sp_read_term (K : PySem.W.Frag) : Sp := fun vs H Q _ => ∃ l : List Nat, vs = [.str (S l)] ∧ l.length ≤ 100000 ∧ (∀ w ∈ prts [32] l, w.length ≤ 640) ∧ (l.all fun c => decide (c < 1114112)) = true ∧ RetP (fun v H2 => RTv v H2 (rdT l)) H Q
theorem p_read_term {K : PySem.W.Frag} {H : Hp} {l : List Nat} (h : l.length ≤ 100000) (h2 : ∀ w ∈ prts [32] l, w.length ≤ 640) (h3 : (l.all fun c => decide (c < 1114112)) = true) : SpP (sp_read_term K) [.str (S l)] H (fun v H2 => RTv v H2 (rdT l)) := fun H1 e Q q E => ⟨l, rfl, h, h2, h3, q⟩
theorem vs_at {ws : List (List Nat)} {i : Nat} (h : i < ws.length) : atI (vs ws) (i : Int) = some (.str (S (ws.getD i []))) := atI_nat (by
  unfold vs
  rw [List.getElem?_map, List.getElem?_eq_getElem h, List.getD_eq_getElem?_getD, List.getElem?_eq_getElem h]
  rfl)
theorem vs_drop (ws : List (List Nat)) (k : Nat) : cutV (vs ws) (some (k : Int)) none = vs (ws.drop k) := by
  rw [cut_drop]
  unfold vs
  rw [List.map_drop]
theorem vs_both (ws : List (List Nat)) (j k : Nat) : cutV (vs ws) (some (j : Int)) (some (k : Int)) = vs ((ws.drop j).take (k - j)) := by
  rw [cutV_both]
  unfold vs
  rw [List.map_take, List.map_drop]
theorem len_dec {xs : List V} {n : Nat} (h : xs.length = n) (k : Nat) : decide (V.int (xs.length : Int) = V.int (k : Int)) = decide (n = k) := decide_eq_decide.mpr ⟨fun z => by have := V.int.inj z; omega, fun z => by rw [h, z]⟩
theorem S_dec (a b : List Nat) : decide (S a = S b) = decide (a = b) := decide_eq_decide.mpr ⟨fun z => S_inj z, fun z => by rw [z]⟩
theorem ok_read_term (T : Txt K mg) : FnG PP w K mg base CX0 5 T.a_read_term T.d_read_term ["text"] (sp_read_term K) := by
  refine okG T.F_read_term sc_read_term (fun vs H Q E h => ?_) (fun cdv A out s H vs Q E hr h => ?_)
  · obtain ⟨l, rfl, hl, hw, hc, q⟩ := h
    rfl
  · obtain ⟨l, rfl, hl, hw, hc, q⟩ := h
    refine ⟨_, (pss_cons (ps_set (i := 1) sc_read_term.nd rfl (.inl rfl) (pe_m1 PySem.F.slot_str_split PySem.F.type_str_split mt_splitR (pv 0) pe_str))
    (pss_cons (ps_set (i := 2) sc_read_term.nd rfl (.inl rfl) (callG (ok_read_bracketed T) (hr.mono (by decide)) (by rfl) T.g_read_bracketed T.F_read_bracketed.kp (b_read_bracketed T) .nil pass0 (pa_cons (pe_ix (ix_listK (K := K) rfl) (pv 1) pe_int (fun _ _ => rfl)) pa_nil)))
    (pss_cons (ps_if (PW.pt (pw_and (pt_cmpR op_eq (pe_callB (call_lenK (K := K) rfl) (by rfl) T.z_len bt_len (pa_cons (pv 1) pa_nil)) pe_int (nomark _)) (pw_and (pt_cmpR op_eq (pe_ix (ix_listK (K := K) rfl) (pv 1) pe_int (fun _ _ => rfl)) pe_str (nomark _)) (pw_and1 (pt_cmpR (op_eqDK (K := K) rfl hr.rm.units) (pe_slice (sl_listK (K := K) rfl) (pv 1) (po_some pe_int) po_none) (pe_lst (pa_cons pe_str (pa_cons pe_str pa_nil))) (nomark _))))))
      (pss_one (ps_ret (pe_tup (pa_cons pe_str (pa_cons (pv 2) (pa_cons (callG (ok_read_bracketed T) (hr.mono (by decide)) (by rfl) T.g_read_bracketed T.F_read_bracketed.kp (b_read_bracketed T) .nil pass0 (pa_cons (pe_ix (ix_listK (K := K) rfl) (pv 1) pe_int (fun _ _ => rfl)) pa_nil)) pa_nil))))))
      pss_nil)
    (pss_cons (ps_if (PW.pt (pw_and (pt_cmpR op_eq (pe_callB (call_lenK (K := K) rfl) (by rfl) T.z_len bt_len (pa_cons (pv 1) pa_nil)) pe_int (nomark _)) (pw_and1 (pt_cmpR (op_eqDK (K := K) rfl hr.rm.units) (pe_slice (sl_listK (K := K) rfl) (pv 1) (po_some pe_int) (po_some pe_int)) (pe_lst (pa_cons pe_str (pa_cons pe_str pa_nil))) (nomark _)))))
      (pss_one (ps_ret (pe_tup (pa_cons pe_str (pa_cons (pv 2) (pa_cons (callG (ok_read_natural T) (hr.mono (by decide)) (by rfl) T.g_read_natural T.F_read_natural.kp (b_read_natural T) .nil pass0 (pa_cons (pe_ix (ix_listK (K := K) rfl) (pv 1) pe_int (fun _ _ => rfl)) pa_nil)) pa_nil))))))
      pss_nil)
    (pss_cons (ps_if (PW.pt (pw_and (pt_cmpR op_eq (pe_callB (call_lenK (K := K) rfl) (by rfl) T.z_len bt_len (pa_cons (pv 1) pa_nil)) pe_int (nomark _)) (pw_and1 (pt_cmpR (op_eqDK (K := K) rfl hr.rm.units) (pe_slice (sl_listK (K := K) rfl) (pv 1) (po_some pe_int) (po_some pe_int)) (pe_lst (pa_cons pe_str (pa_cons pe_str (pa_cons pe_str pa_nil)))) (nomark _)))))
      (pss_one (ps_ret (pe_tup (pa_cons pe_str (pa_cons (pv 2) (pa_cons (callG (ok_read_natural T) (hr.mono (by decide)) (by rfl) T.g_read_natural T.F_read_natural.kp (b_read_natural T) .nil pass0 (pa_cons (pe_ix (ix_listK (K := K) rfl) (pv 1) pe_int (fun _ _ => rfl)) pa_nil)) pa_nil))))))
      pss_nil)
    (pss_one (ps_ret pe_non))))))), ?_⟩
    have wok : ∀ {us : List (List Nat)}, (∀ w ∈ us, w ∈ prts [32] l) → strsOk us := fun h w hm => by
      rw [List.all_eq_true] at hc ⊢
      exact fun c hcw => hc c (prts_mem (by decide) (by decide) (h w hm) hcw)
    have pos := prts_pos [32] l
    have cnt := prts_count (sep := [32]) (l := l) (by decide) (by decide)
    have er : rdT l = rdW (prts [32] l) := rfl
    rw [er] at q
    refine q_asgL (xs := vs (prts [32] l)) (el_is (el_split (b := S [32]) (ev_var rfl) ev_c (by rw [S_len]; rfl) (by rw [S_len]; show _ ≤ 2 ^ 24; omega)) (by rw [prts_S (by decide) (by decide)]; unfold vs; rw [List.map_map]; rfl)) fun p H1 f1 e1 g1 => ?_
    generalize prts [32] l = ws at *
    have lw : (vs ws).length = ws.length := by
      unfold vs
      rw [List.length_map]
    have wl : ∀ i, (ws.getD i []).length ≤ 640 := fun i => by
      rw [List.getD_eq_getElem?_getD]
      cases g : ws[i]? with
      | none => exact Nat.zero_le _
      | some w => exact hw w (List.mem_of_getElem? g)
    refine q_asg (v := optI (brkT (ws.getD 0 []))) (ev_call (ea_cons (ev_op (ev_var rfl) ev_c (rv_ixL (sq_of g1) (vs_at (i := 0) pos))) ea_nil) (v_read_bracketed (wl 0))) fun H2 e2 => ?_
    have g2 := e2 _ _ g1
    have e12 := e1.trans e2
    refine q_when (b := B1 ws) (et_and (a := decide (ws.length = 5)) (b := decide (ws.getD 1 [] = [42]) && decide (ws.drop 3 = [[94], [110]])) (et_is (et_test (ev_op (ev_len (ev_var rfl) (sq_of g2)) ev_c (rv_eq rfl))) (len_dec lw 5)) fun h5 => ?_) (fun hb H3 e3 => ?_) (fun hb1 H3 e3 => ?_)
    · have l5 : ws.length = 5 := of_decide_eq_true h5
      exact et_and (a := decide (ws.getD 1 [] = [42])) (b := decide (ws.drop 3 = [[94], [110]])) (et_is (et_test (ev_op (ev_op (ev_var rfl) ev_c (rv_ixL (v := .str (S (ws.getD 1 []))) (sq_of g2) (vs_at (i := 1) (by omega)))) ev_c rv_eqS)) (S_dec _ [42])) fun _ => et_test (ev_eqTT (as := ws.drop 3) (bs := [[94], [110]]) (wok fun w m => List.mem_of_mem_drop m) (strsOk_of (by decide)) (el_is (el_sl (ev_var rfl) (eo_some ev_c) eo_none (sq_of g2)) (vs_drop ws 3)) (el_lst (ea_cons ev_c (ea_cons ev_c ea_nil)) (by show 2 ≤ 100000; decide)))
    · have l5 : ws.length = 5 := of_decide_eq_true (by unfold B1 at hb; simp only [Bool.and_eq_true] at hb; exact hb.1)
      have eo : rdW ws = some (0, brkT (ws.getD 0 []), brkT (ws.getD 2 [])) := by
        unfold rdW
        exact if_pos hb
      rw [eo] at q
      exact s_retU (eu_tup (ea_cons ev_c (ea_cons (ev_var rfl) (ea_cons (ev_call (ea_cons (ev_op (ev_var rfl) ev_c (rv_ixL (sq_of (e3 _ _ g2)) (vs_at (i := 2) (by omega)))) ea_nil) (v_read_bracketed (wl 2))) ea_nil))) (by show 3 ≤ 100000; decide)) fun u H4 h4 e4 g4 => q (.ref u) H4 ((e12.trans e3).trans e4) ⟨u, rfl, g4⟩
    have g3 := e3 _ _ g2
    refine q_when (b := B2 ws) (et_and (a := decide (ws.length = 4)) (b := decide ((ws.drop 1).take 2 = [[42], [114, 105, 110, 103]])) (et_is (et_test (ev_op (ev_len (ev_var rfl) (sq_of g3)) ev_c (rv_eq rfl))) (len_dec lw 4)) fun h4 => ?_) (fun hb H4 e4 => ?_) (fun hb2 H4 e4 => ?_)
    · exact et_test (ev_eqTT (as := (ws.drop 1).take 2) (bs := [[42], [114, 105, 110, 103]]) (wok fun w m => List.mem_of_mem_drop (List.mem_of_mem_take m)) (strsOk_of (by decide)) (el_is (el_sl (ev_var rfl) (eo_some ev_c) (eo_some ev_c) (sq_of g3)) (vs_both ws 1 3)) (el_lst (ea_cons ev_c (ea_cons ev_c ea_nil)) (by show 2 ≤ 100000; decide)))
    · have l4 : ws.length = 4 := of_decide_eq_true (by unfold B2 at hb; simp only [Bool.and_eq_true] at hb; exact hb.1)
      have eo : rdW ws = some (1, brkT (ws.getD 0 []), natI (ws.getD 3 [])) := by
        unfold rdW
        rw [if_neg (by rw [hb1]; exact Bool.false_ne_true)]
        exact if_pos hb
      rw [eo] at q
      exact s_retU (eu_tup (ea_cons ev_c (ea_cons (ev_var rfl) (ea_cons (ev_is (ev_call (ea_cons (ev_op (ev_var rfl) ev_c (rv_ixL (sq_of (e4 _ _ g3)) (vs_at (i := 3) (by omega)))) ea_nil) (v_read_natural (wl 3))) (optI_natI _).symm) ea_nil))) (by show 3 ≤ 100000; decide)) fun u H5 h5 e5 g5 => q (.ref u) H5 (((e12.trans e3).trans e4).trans e5) ⟨u, rfl, g5⟩
    have g4 := e4 _ _ g3
    refine q_when (b := B3 ws) (et_and (a := decide (ws.length = 5)) (b := decide ((ws.drop 1).take 3 = [[42], [110], [94]])) (et_is (et_test (ev_op (ev_len (ev_var rfl) (sq_of g4)) ev_c (rv_eq rfl))) (len_dec lw 5)) fun h5 => ?_) (fun hb H5 e5 => ?_) (fun hb3 H5 e5 => ?_)
    · exact et_test (ev_eqTT (as := (ws.drop 1).take 3) (bs := [[42], [110], [94]]) (wok fun w m => List.mem_of_mem_drop (List.mem_of_mem_take m)) (strsOk_of (by decide)) (el_is (el_sl (ev_var rfl) (eo_some ev_c) (eo_some ev_c) (sq_of g4)) (vs_both ws 1 4)) (el_lst (ea_cons ev_c (ea_cons ev_c (ea_cons ev_c ea_nil))) (by show 3 ≤ 100000; decide)))
    · have l5 : ws.length = 5 := of_decide_eq_true (by unfold B3 at hb; simp only [Bool.and_eq_true] at hb; exact hb.1)
      have eo : rdW ws = some (2, brkT (ws.getD 0 []), natI (ws.getD 4 [])) := by
        unfold rdW
        rw [if_neg (by rw [hb1]; exact Bool.false_ne_true), if_neg (by rw [hb2]; exact Bool.false_ne_true)]
        exact if_pos hb
      rw [eo] at q
      exact s_retU (eu_tup (ea_cons ev_c (ea_cons (ev_var rfl) (ea_cons (ev_is (ev_call (ea_cons (ev_op (ev_var rfl) ev_c (rv_ixL (sq_of (e5 _ _ g4)) (vs_at (i := 4) (by omega)))) ea_nil) (v_read_natural (wl 4))) (optI_natI _).symm) ea_nil))) (by show 3 ≤ 100000; decide)) fun u H6 h6 e6 g6 => q (.ref u) H6 ((((e12.trans e3).trans e4).trans e5).trans e6) ⟨u, rfl, g6⟩
    have eo : rdW ws = none := by
      unfold rdW
      rw [if_neg (by rw [hb1]; exact Bool.false_ne_true), if_neg (by rw [hb2]; exact Bool.false_ne_true)]
      exact if_neg (by rw [hb3]; exact Bool.false_ne_true)
    rw [eo] at q
    exact s_ret ev_c fun H6 e6 => q .non H6 ((((e12.trans e3).trans e4).trans e5).trans e6) rfl
/-! ### _law_rule -/
def sp_law_rule (K : PySem.W.Frag) : Sp := fun vs H Q _ => ∃ (a : Addr) (n m : Nat), vs = [.ref a, .int (m : Int)] ∧ Well H a n ∧ n + (1 + m * 5) ≤ 2 ^ 50 ∧ 0 < m ∧ m ≤ 300 ∧ ∀ (r : Addr) (ts : List Tm) H2, H r = none → But a H H2 → Well H2 a (n + (1 + m * 5)) → Rul H2 r ts → 0 < ts.length → ts.length ≤ m → (∀ t ∈ ts, TmOk t) → Q (.ref r) H2
theorem ok_law_rule (T : Txt K mg) : FnG PP w K mg base CX0 5 T.a_law_rule T.d_law_rule ["well", "most"] (sp_law_rule K) := by
  refine okG T.F_law_rule sc_law_rule (fun vs H Q E h => ?_) (fun cdv A out s H vs Q E hr h => ?_)
  · obtain ⟨a, n, m, rfl, hw, hn, m0, m1, q⟩ := h
    rfl
  · obtain ⟨a, n, m, rfl, hw, hn, m0, m1, q⟩ := h
    refine ⟨_, (pss_one (ps_ret (pe_lc (own := [("k", 2)]) (g := gName 2) rfl sc_law_rule.nd (pi_range1 (by rfl) T.z_range (pa_cons (pe_op op_add pe_int (callG (ok_law_pull T) (hr.mono (by decide)) (by rfl) T.g_law_pull T.F_law_pull.kp (b_law_pull T) .nil pass0 (pa_cons (pv 0) (pa_cons (pv 1) pa_nil)))) pa_nil)) (blkOk_by (own := [("k", 2)]) (N := ["well", "most", "k"]) (sc := defScope s_law_rule) (by decide +kernel)) (fun _ _ _ _ _ => (pg_name (i := 2) sc_law_rule.nd rfl (Or.inl rfl))) (fun _ _ _ _ _ => pts_nil) (fun _ _ _ _ _ => (callG (ok_law_term T) (hr.mono (by decide)) (by rfl) T.g_law_term T.F_law_term.kp (b_law_term T) .nil pass0 (pa_cons (pv 0) pa_nil)))))), ?_⟩
    exact ewr_lc (d1 := 0 + 1) (N := m) (P := fun r => 1 ≤ r ∧ r ≤ (m : Int)) (ew_add (P1 := fun r => r = 1) (P2 := fun r => 0 ≤ r ∧ r < (m : Int)) (ew_c rfl) (ew_drawC rfl (ev_var rfl) (by omega) (lt8000 (Int.lt_of_le_of_lt (show (m : Int) ≤ 300 by omega) (by decide)))) (fun x y hx hy => by omega)) (fun r hr => by omega) (by omega) (fun _ => rfl)
      (fun i n' H1 b1 w1 l1 Q' q' => ⟨.ref a, rfl, a, n', rfl, w1, l1, q'⟩) hw (by omega) _ fun r ts H1 hr b1 w1 R hl ok => q r ts H1 hr b1 (w1.mono (by omega)) R (by omega) (by omega) ok
/-! ### _law_due -/
def sp_law_due (K : PySem.W.Frag) : Sp := fun us H Q _ => ∃ (l : List Nat) (o : Nat ⊕ List Tm), us = [.str (S l)] ∧ l.length ≤ 30000 ∧ okS l ∧ (∀ p ∈ prts [32, 43, 32] l, ∀ w ∈ prts [32] p, w.length ≤ 640) ∧ isDueR l o ∧ RetP (fun v H2 => DueR H2 o v) H Q
theorem p_due {K : PySem.W.Frag} {H : Hp} {l : List Nat} {o : Nat ⊕ List Tm} (h : l.length ≤ 30000) (ok : okS l) (hp : ∀ p ∈ prts [32, 43, 32] l, ∀ w ∈ prts [32] p, w.length ≤ 640) (d : isDueR l o) : SpP (sp_law_due K) [.str (S l)] H (fun v H2 => DueR H2 o v) := fun H1 e Q q E => ⟨l, o, rfl, h, ok, hp, d, q⟩
theorem ok_law_due (T : Txt K mg) : FnG PP w K mg base CX0 5 T.a_law_due T.d_law_due ["value"] (sp_law_due K) := by
  refine okG T.F_law_due sc_law_due (fun vs H Q E h => ?_) (fun cdv A out s H vs Q E hr h => ?_)
  · obtain ⟨l, o, rfl, hl, ok, hp, d, q⟩ := h
    rfl
  · obtain ⟨l, o, rfl, hl, ok, hp, d, q⟩ := h
    refine ⟨_, (pss_cons (ps_setLc (i := 1) (own := [("part", 2)]) (g := gName 2) rfl sc_law_due.nd rfl rfl (sw_true rfl rfl rfl (by decide +kernel)) (pi_listK (K := K) rfl (pe_m1 PySem.F.slot_str_split PySem.F.type_str_split mt_splitR (pv 0) pe_str)) (blkOk_by (own := [("part", 2)]) (N := ["value", "terms", "part"]) (sc := defScope s_law_due) (by decide +kernel)) (fun _ _ _ _ _ => (pg_name (i := 2) sc_law_due.nd rfl (Or.inl rfl))) (fun _ _ _ _ _ => pts_nil) (fun _ _ _ _ _ => (callG (ok_law_term_of T) (hr.mono (by decide)) (by rfl) T.g_law_term_of T.F_law_term_of.kp (b_law_term_of T) .nil pass0 (pa_cons (pv 2) pa_nil))))
    (pss_cons (ps_if (pt_cmpR (op_inDK (K := K) rfl hr.rm.units65) pe_non (pe_slice (sl_listK (K := K) rfl) (pv 1) po_none (po_some pe_int)) rfl)
      (pss_one (ps_ret (pe_bm PySem.F.plainAttrs_list PySem.F.slot_list_index PySem.F.type_list_index (mt_indexDK (K := K) rfl hr.rm.units65) (pv 1) (pa_cons pe_non pa_nil))))
      pss_nil)
    (pss_one (ps_ret (pe_ifExp (pt_cmpR op_gt (pe_callB (call_lenK (K := K) rfl) (by rfl) T.z_len bt_len (pa_cons (pv 1) pa_nil)) pe_int (nomark _)) pe_int (pv 1)))))), ?_⟩
    have cnt := prts_count (sep := [32, 43, 32]) (l := l) (by decide) (by decide)
    have pok : ∀ p ∈ prts [32, 43, 32] l, okS p ∧ p.length ≤ 30000 := fun p hm => ⟨List.all_eq_true.mpr fun c hc => List.all_eq_true.mp ok c (prts_mem (by decide) (by decide) hm hc), by have := prts_len (by decide) (by decide) hm; omega⟩
    refine q_asgLP (elp_lcI (xs := vs (prts [32, 43, 32] l)) (P := fun i v H => TV v H (readT ((prts [32, 43, 32] l).getD i []))) (fun _ _ _ _ e h => TV.ex h e) (fun _ _ _ _ _ _ g h => TV.keep g h) (el_is (el_split (ev_var rfl) ev_c (b := S [32, 43, 32]) (by rw [S_len]; rfl) (by rw [S_len]; show _ ≤ 2 ^ 24; omega)) (by rw [prts_S (by decide) (by decide)]; unfold vs; rw [List.map_map]; rfl)) (by rw [vs_len]; omega) (fun _ => rfl) fun i x H2 e2 hx => ?_) fun tp xs H1 h1 e1 g1 px => ?_
    · unfold vs at hx
      rw [List.getElem?_map] at hx
      cases g : (prts [32, 43, 32] l)[i]? with
      | none =>
        rw [g] at hx
        cases hx
      | some p =>
        rw [g] at hx
        cases hx
        have hm := List.mem_of_getElem? g
        rw [List.getD_eq_getElem?_getD, g]
        exact ep_call (ea_cons (ev_var rfl) ea_nil) (p_term_of (pok p hm).2 (pok p hm).1 (hp p hm))
    obtain ⟨lx, px⟩ := px
    rw [vs_len] at lx
    have hos : ∀ (i : Nat) (v : V) (o : Option Tm), xs[i]? = some v → ((prts [32, 43, 32] l).map readT)[i]? = some o → TV v H1 o := fun i v o a b => by
      have := px i v a
      rw [List.getElem?_map] at b
      cases g : (prts [32, 43, 32] l)[i]? with
      | none =>
        rw [g] at b
        cases b
      | some p =>
        rw [g] at b
        cases b
        rw [List.getD_eq_getElem?_getD, g] at this
        exact this
    have dall := tvs_dp (K := K) (by rw [lx, List.length_map]) hos
    have d12 := tvs_dp (K := K) (H := H1) (xs := xs.take 12) (os := ((prts [32, 43, 32] l).map readT).take 12) (by rw [List.length_take, List.length_take, lx, List.length_map]) fun i v o a b => by
      have hi := (List.getElem?_eq_some_iff.mp a).1
      rw [List.length_take] at hi
      rw [List.getElem?_take_of_lt (by omega)] at a b
      exact hos i v o a b
    have slP : EvP (tSl (rSlL K) (tVar 1) tNoPart (tPart (tC (.int 12)))) [some (.str (S l)), some (.ref tp), none] H1 fun v H2 => Dp K H2 v (.list ((((prts [32, 43, 32] l).map readT).take 12).map oD)) := fun H2 e Q q => (el_is (el_sl (ev_var rfl) eo_none (eo_some ev_c) (sq_of g1)) (cut_take _ 12)) H2 e Q fun p H3 hp3 e3 g3 => q _ H3 e3 (.lst (sq_of g3) (DpAll.ex (e.trans e3) _ _ d12))
    cases o with
    | inl i =>
      obtain ⟨p, hi, hw, prev⟩ := d
      have hlt := (List.getElem?_eq_some_iff.mp hi).1
      by_cases h12 : i < 12
      · have rp : readT p = none := hw.resolve_left (by omega)
        refine q_when (b := true) (et_is (et_test (ev_inD ev_c (fun _ => .non) slP none_shaped (oD_shaped _))) ((any_none _).trans (any12_true h12 hi rp))) (fun _ H2 e2 => ?_) (fun h => nomatch h)
        refine s_ret (v := .int (i : Int)) (ev_indexD (ev_var rfl) (sq_of (e2 _ _ g1)) (DpAll.ex e2 _ _ dall) ev_c (fun _ => .non) (oD_shaped _) none_shaped (j := i) (z := .none) ?_ rfl ?_) fun H3 e3 => q _ H3 ((e1.trans e2).trans e3) rfl
        · rw [List.getElem?_map, List.getElem?_map, hi]
          show some (oD (readT p)) = _
          rw [rp]
          rfl
        · intro m z' hm hz
          rw [List.getElem?_map, List.getElem?_map] at hz
          cases g : (prts [32, 43, 32] l)[m]? with
          | none =>
            rw [g] at hz
            cases hz
          | some r =>
            rw [g] at hz
            cases hz
            have := (prev m r hm g).2
            show PyData.eqv (oD (readT r)) .none = false
            rw [oD_eqv]
            cases e : readT r with
            | none => exact absurd e this
            | some t => rfl
      · have i12 : i = 12 := by
          refine Classical.byContradiction fun z => ?_
          have g12 : (prts [32, 43, 32] l)[12]? = some ((prts [32, 43, 32] l)[12]'(by omega)) := List.getElem?_eq_getElem _
          have := (prev 12 _ (by omega) g12).1
          omega
        subst i12
        refine q_when (b := false) (et_is (et_test (ev_inD ev_c (fun _ => .non) slP none_shaped (oD_shaped _))) ((any_none _).trans (any12_false fun k q hk g => (prev k q hk g).2))) (fun h => nomatch h) fun _ H2 e2 => ?_
        exact s_ret (v := .int 12) (ev_if (b := true) (et_test (ev_op (ev_len (ev_var rfl) (sq_of (e2 _ _ g1))) ev_c (rv_b (decide_eq_true (by omega))))) (fun _ => ev_c) (fun h => nomatch h)) fun H3 e3 => q _ H3 ((e1.trans e2).trans e3) rfl
    | inr ts =>
      obtain ⟨d1, d2⟩ := d
      have lt : (prts [32, 43, 32] l).length = ts.length := by
        have := congrArg List.length d1
        rw [List.length_map, List.length_map] at this
        exact this
      refine q_when (b := false) (et_is (et_test (ev_inD ev_c (fun _ => .non) slP none_shaped (oD_shaped _))) ((any_none _).trans (any12_false fun k q hk g => by
        have e4 : ((prts [32, 43, 32] l).map readT)[k]? = some (readT q) := by
          rw [List.getElem?_map, g]
          rfl
        rw [d1, List.getElem?_map] at e4
        cases g2 : ts[k]? with
        | none =>
          rw [g2] at e4
          cases e4
        | some t =>
          rw [g2] at e4
          injection e4 with e4
          rw [← e4]
          exact fun z => by cases z))) (fun h => nomatch h) fun _ H2 e2 => ?_
      obtain ⟨as, rfl, la, f⟩ := refs_of (H := H1) (xs := xs) (ts := ts) (by omega) fun i v t a b => hos i v (some t) a (by
        rw [d1, List.getElem?_map, b]
        rfl)
      have R : Rul H1 tp ts := ⟨as, g1, la, f⟩
      exact s_ret (v := .ref tp) (ev_if (b := false) (et_test (ev_op (ev_len (ev_var rfl) (sq_of (e2 _ _ g1))) ev_c (rv_b (decide_eq_false (by omega))))) (fun h => nomatch h) (fun _ => ev_var rfl)) fun H3 e3 => q _ H3 ((e1.trans e2).trans e3) ⟨tp, rfl, R.ex (e2.trans e3)⟩
/-! ### rule_text -/
def sp_rule_text (K : PySem.W.Frag) : Sp := fun vs H Q _ => ∃ (r : Addr) (ts : List Tm), vs = [.ref r] ∧ Rul H r ts ∧ 0 < ts.length ∧ ts.length ≤ 12 ∧ (∀ t ∈ ts, TmOk t) ∧ RetV (.str (S (ruleT ts))) H Q
theorem v_rule_text {K : PySem.W.Frag} {H : Hp} {r : Addr} {ts : List Tm} (h : Rul H r ts) (h0 : 0 < ts.length) (h1 : ts.length ≤ 12) (ok : ∀ t ∈ ts, TmOk t) : SpV (sp_rule_text K) [.ref r] H (.str (S (ruleT ts))) := fun H1 e Q q E => ⟨r, ts, rfl, h.ex e, h0, h1, ok, q⟩
theorem ok_rule_text (T : Txt K mg) : FnG PP w K mg base CX0 6 T.a_rule_text T.d_rule_text ["rule"] (sp_rule_text K) := by
  refine okG T.F_rule_text sc_rule_text (fun vs H Q E h => ?_) (fun cdv A out s H vs Q E hr h => ?_)
  · obtain ⟨r, ts, rfl, hR, h0, h1, ok, q⟩ := h
    rfl
  · obtain ⟨r, ts, rfl, hR, h0, h1, ok, q⟩ := h
    refine ⟨_, (pss_cons (ps_expr (callG (ok_check_rule T) (hr.mono (by decide)) (by rfl) T.g_check_rule T.F_check_rule.kp (b_check_rule T) .nil pass0 (pa_cons (pv 0) pa_nil)))
    (pss_one (ps_ret (pe_m1 PySem.F.slot_str_join PySem.F.type_str_join (mt_joinK (K := K) rfl) (pe_glob (v := .str " + ") rfl T.c__BETWEEN_TERMS ⟨_, rfl⟩) (pe_lc (own := [("term", 1)]) (g := gName 1) rfl sc_rule_text.nd (pi_listK (K := K) rfl (pv 0)) (blkOk_by (own := [("term", 1)]) (N := ["rule", "term"]) (sc := defScope s_rule_text) (by decide +kernel)) (fun _ _ _ _ _ => (pg_name (i := 1) sc_rule_text.nd rfl (Or.inl rfl))) (fun _ _ _ _ _ => pts_nil) (fun _ _ _ _ _ => (callG (ok_term_text T) (hr.mono (by decide)) (by rfl) T.g_term_text T.F_term_text.kp (b_term_text T) .nil pass0 (pa_cons (pv 1) pa_nil)))))))), ?_⟩
    refine q_drop (ev_call (ea_cons (ev_var rfl) ea_nil) (v_check_rule hR h0 h1 ok)) fun H1 e1 => ?_
    exact s_ret (ev_is (ev_joinN (ys := ts.map fun t => S (tmT t)) ev_c (el_texts (hR.ex e1) (by omega) (ev_var rfl) (fun _ => rfl) fun b t H2 e2 m g => ev_call (ea_cons (ev_var rfl) ea_nil) (v_term_text (st_of g) (ok t m))) (rule_fits ok (by omega))) (congrArg V.str (join_rule ts))) fun H2 e2 => q H2 (e1.trans e2)
/-! ### read_rule -/
def sp_read_rule (T : Txt K mg) : Sp := fun us H Q E => ∃ l : List Nat, us = [.str (S l)] ∧ l.length ≤ 100000 ∧ (l.all fun c => decide (c < 1114112)) = true ∧ (∀ p ∈ prts [32, 43, 32] l, ∀ w ∈ prts [32] p, w.length ≤ 640) ∧ (∀ ts, (prts [32, 43, 32] l).map readT = ts.map some → ts.length ≤ 12 → RetR ts H Q) ∧
  (∀ (i : Nat) p, (prts [32, 43, 32] l)[i]? = some p → (12 ≤ i ∨ readT p = none) → (∀ k q, k < i → (prts [32, 43, 32] l)[k]? = some q → k < 12 ∧ readT q ≠ none) → ∀ H1 d, Ex H H1 → H1 d = none → E (.ref T.a_NoText) (some d) (upd H1 d (.xd [(("index" : Str), .int (i : Int))])))
theorem r_read_rule (T : Txt K mg) {H : Hp} {ts : List Tm} (h0 : 0 < ts.length) (h1 : ts.length ≤ 12) (ok : ∀ t ∈ ts, TmOk t) : SpR (sp_read_rule T) [.str (S (ruleT ts))] H ts := fun H1 e Q q E => by
  have ne : ts ≠ [] := List.length_pos_iff.mp h0
  have hl := rule_len ok (by omega)
  refine ⟨ruleT ts, rfl, by omega, asc_rule ts, words_rule ne ok, fun us hu _ => ?_, fun i p hp hw _ => ?_⟩
  · rw [prts_rule ne, List.map_map, List.map_congr_left (f := readT ∘ tmT) (g := some) fun t ht => readT_tm (ok t ht)] at hu
    rw [← map_some_inj hu]
    exact q
  · obtain ⟨t, ht, _, er⟩ := rule_at ne ok hp
    have := (List.getElem?_eq_some_iff.mp ht).1
    rcases hw with hw | hw
    · omega
    · rw [er] at hw
      cases hw
theorem ok_read_rule (T : Txt K mg) : FnG PP w K mg base (L2.CX PP w) 6 T.a_read_rule T.d_read_rule ["text"] (sp_read_rule T) := by
  refine bodyG T.F_read_rule sc_read_rule (fun vs H Q E h => ?_) (fun cdv A out s H vs Q E hr h => ?_)
  · obtain ⟨l, rfl, hl, ha, hp, q1, q2⟩ := h
    rfl
  · obtain ⟨l, rfl, hl, ha, hp, q1, q2⟩ := h
    refine ⟨_, (pss_cons (ps_set (i := 1) sc_read_rule.nd rfl (.inl rfl) (pe_lst pa_nil))
    (pss_cons (ps_for (passes_of rfl) rfl (pi_enum (by rfl) T.z_enumerate (pa_cons (callG (ok_parts T) (hr.mono (by decide)) (by rfl) T.g_parts T.F_parts.kp (b_parts T) .nil pass0 (pa_cons (pv 0) (pa_cons (pe_glob (v := .str " + ") rfl T.c__BETWEEN_TERMS ⟨_, rfl⟩) pa_nil))) pa_nil)) (pg_tup rfl (pgs_cons (pg_name (i := 2) sc_read_rule.nd rfl (.inl rfl)) (pgs_cons (pg_name (i := 3) sc_read_rule.nd rfl (.inl rfl)) pgs_nil)))
      (pss_cons (ps_set (i := 4) sc_read_rule.nd rfl (.inl rfl) (callG (ok_read_term T) (hr.mono (by decide)) (by rfl) T.g_read_term T.F_read_term.kp (b_read_term T) .nil pass0 (pa_cons (pv 3) pa_nil)))
      (pss_cons (ps_if (PW.pt (pw_or (pt_cmpR op_ge (pv 2) (pe_glob (v := .int 12) rfl T.c_MOST_TERMS ⟨_, rfl⟩) (nomark _)) (pw_or1 (pt_not (pt_val (callG (ok_is_term T) (hr.mono (by decide)) (by rfl) T.g_is_term T.F_is_term.kp (b_is_term T) .nil pass0 (pa_cons (pv 4) pa_nil)))))))
        (pss_one (ps_raise rfl (takes_of rfl rfl rfl rfl) (pmk_sup T.s_NoText T.sb_NoText (hr.rm.mono (by decide)) rfl T.e_NoText.g (pa_cons (pv 2) pa_nil))))
        pss_nil)
      (pss_one (ps_expr (pe_bm PySem.F.plainAttrs_list PySem.F.slot_list_append PySem.F.type_list_append mt_append (pv 1) (pa_cons (pv 4) pa_nil)))))))
    (pss_one (ps_ret (pv 1))))), ?_⟩
    have cnt := prts_count (sep := [32, 43, 32]) (l := l) (by decide) (by decide)
    refine q_asgL (el_lst ea_nil (Nat.zero_le _)) fun p H1 f1 e1 g1 => ?_
    refine q_forNEn (xs := vs (prts [32, 43, 32] l)) (el_is (el_call (ea_cons (ev_var rfl) (ea_cons ev_c ea_nil)) (l_parts (b := S [32, 43, 32]) (by rw [S_len]; rfl) (by rw [S_len]; show _ ≤ 2 ^ 24; omega))) (by rw [prts_S (by decide) (by decide)]; unfold vs; rw [List.map_map]; rfl)) (fun b i σ' H' => ∃ (y2 y3 y4 : Option V) (as : List Addr) (ts : List Tm), σ' = [some (.str (S l)), some (.ref p), y2, y3, y4] ∧ Ex H H' ∧ H' p = some (.lst (as.map .ref)) ∧ as.length = ts.length ∧ (∀ (k : Nat) (b : Addr) (t : Tm), as[k]? = some b → ts[k]? = some t → H' b = some (.tup (tv t))) ∧ ((prts [32, 43, 32] l).take i).map readT = ts.map some ∧ ts.length ≤ 12 ∧ H' b = some (.lst (vs (prts [32, 43, 32] l))) ∧ b ≠ p) ?_ ?_ ?_ ?_
    · intro b H2 hb e2 g2
      exact ⟨_, _, _, [], [], rfl, e1.trans e2, e2 _ _ g1, rfl, (fun _ _ _ h => nomatch h), rfl, Nat.zero_le _, g2, ne_of_none' hb g1⟩
    · rintro b i σ' H' _ ⟨y2, y3, y4, as, ts, rfl, e, gp, la, f, hn, h12, gb, np⟩
      exact sq_of gb
    · rintro b i x σ' H' hx ⟨y2, y3, y4, as, ts, rfl, e, gp, la, f, hn, h12, gb, np⟩ H2 e2
      unfold vs at hx
      rw [List.getElem?_map] at hx
      cases hg : (prts [32, 43, 32] l)[i]? with
      | none =>
        rw [hg] at hx
        cases hx
      | some w =>
        rw [hg] at hx
        cases hx
        have hi := (List.getElem?_eq_some_iff.mp hg).1
        have ln : ts.length = i := by
          have := congrArg List.length hn
          rw [List.length_map, List.length_map, List.length_take] at this
          omega
        have mw := List.mem_of_getElem? hg
        have prev : ∀ k q, k < i → (prts [32, 43, 32] l)[k]? = some q → k < 12 ∧ readT q ≠ none := fun k q hk e => by
          have e2 : (((prts [32, 43, 32] l).take i).map readT)[k]? = some (readT q) := by
            rw [List.getElem?_map, List.getElem?_take_of_lt hk, e]
            rfl
          rw [hn, List.getElem?_map] at e2
          cases g : ts[k]? with
          | none =>
            rw [g] at e2
            cases e2
          | some n =>
            rw [g] at e2
            injection e2 with e2
            rw [← e2]
            exact ⟨by omega, fun z => by cases z⟩
        have asw : (w.all fun c => decide (c < 1114112)) = true := by
          rw [List.all_eq_true] at ha ⊢
          exact fun c hc => ha c (prts_mem (by decide) (by decide) mw hc)
        refine q_asgP (ep_call (ea_cons (ev_var rfl) ea_nil) (p_read_term (by have := prts_len (sep := [32, 43, 32]) (by decide) (by decide) mw; omega) (hp w mw) asw)) fun v H3 e3 rv => ?_
        have e23 := e2.trans e3
        by_cases hbad : 12 ≤ i ∨ readT w = none
        · have tst := et_or (a := decide (12 ≤ i)) (b := !(rdB (rdT w))) (σ := [some (.str (S l)), some (.ref p), some (.int (i : Int)), some (.str (S w)), some v]) (H := H3) (et_is (et_test (ev_op (ta := tVar 2) (tb := tC (.int 12)) (ev_var rfl) ev_c (rv_I0 (g := fun i j => .bl (decide (j ≤ i)))))) (b := decide (12 ≤ i)) (decide_eq_decide.mpr (by omega))) fun _ => et_not (et_B (ev_call (E := E0) (ea_cons (ta := tVar 4) (ev_var rfl) ea_nil) (v_is_termJ (K := K) rv.jt)))
          have eb : (decide (12 ≤ i) || !(rdB (rdT w))) = true := by
            rcases hbad with h | h
            · rw [decide_eq_true h]
              rfl
            · rw [readT_no h]
              simp
          rw [eb] at tst
          refine q_when tst (fun _ H4 e4 => ?_) (fun h => nomatch h)
          exact mk_ev (ev_var rfl) fun H5 d e5 hd => q2 i w hg hbad prev H5 d (((e.trans e23).trans e4).trans e5) hd
        · have h12 : i < 12 := Nat.lt_of_not_le fun h => hbad (.inl h)
          obtain ⟨t, ht⟩ : ∃ t, readT w = some t := by
            cases h : readT w with
            | none => exact absurd (.inr h) hbad
            | some t => exact ⟨t, rfl⟩
          obtain ⟨okt, ed, eb⟩ := readT_ok ht
          have jt := rv.jt (K := K)
          rw [eb] at jt
          rw [ed] at rv
          obtain ⟨u, rfl, gu⟩ := rv
          refine q_when (b := false) (et_or (a := false) (b := false) (et_is (et_test (ev_op (ev_var rfl) ev_c rv_I0)) (decide_eq_false (by omega))) fun _ => et_not (a := true) (et_B (ev_call (ea_cons (ev_var rfl) ea_nil) (v_is_termJ jt)))) (fun h => nomatch h) fun _ H4 e4 => ?_
          have ee := e23.trans e4
          have gp4 := ee _ _ gp
          have gu4 : H4 u = some (.tup (tv t)) := e4 _ _ gu
          refine s_app gp4 (ev_var rfl) (ev_var rfl) (by rw [List.length_map]; omega) fun H5 e5 => ?_
          refine ⟨_, _, _, as ++ [u], ts ++ [t], rfl, ((e.trans ee).trans e5).mut f1, by rw [upd_same, List.map_append]; rfl, by rw [List.length_append, List.length_append, la]; rfl, fun k b' t' hb ht' => ?_, ?_, by rw [List.length_append, ln]; show i + 1 ≤ 12; omega, ?_, np⟩
          · by_cases c : k < as.length
            · rw [List.getElem?_append_left c] at hb
              rw [List.getElem?_append_left (by omega)] at ht'
              have gb' := ee _ _ (f k b' t' hb ht')
              rw [upd_ne (tup_lst gb' gp4)]
              exact e5 _ _ gb'
            · rw [List.getElem?_append_right (by omega)] at hb ht'
              have hj := (List.getElem?_eq_some_iff.mp hb).1
              have e0 : k - as.length = 0 := by
                simp at hj
                omega
              rw [e0] at hb
              rw [show k - ts.length = 0 by omega] at ht'
              cases hb
              cases ht'
              rw [upd_ne (tup_lst gu4 gp4)]
              exact e5 _ _ gu4
          · rw [List.take_succ, hg, List.map_append, hn, List.map_append]
            show _ ++ [readT w] = _
            rw [ht]
            rfl
          · rw [upd_ne np]
            exact (ee.trans e5) _ _ gb
    · rintro b σ' H' ⟨y2, y3, y4, as, ts, rfl, e, gp, la, f, hn, h12, gb, np⟩
      rw [show (vs (prts [32, 43, 32] l)).length = (prts [32, 43, 32] l).length by unfold vs; rw [List.length_map], List.take_length] at hn
      exact s_ret (ev_var rfl) fun H2 e2 => q1 ts hn h12 p H2 f1 (e.trans e2) ⟨as, e2 _ _ gp, la, fun k b t hb ht => e2 _ _ (f k b t hb ht)⟩
/-! ### _law_goes -/
def sp_law_goes (K : PySem.W.Frag) : Sp := fun us H Q _ => ∃ (l : List Nat) (v : V) (o : Nat ⊕ List Tm), us = [.str (S l), v] ∧ l.length ≤ 30000 ∧ okS l ∧ (∀ p ∈ prts [32, 43, 32] l, ∀ w ∈ prts [32] p, w.length ≤ 640) ∧ isDueR l o ∧ DueR H o v ∧ RetV (.bl true) H Q
theorem v_goes {K : PySem.W.Frag} {H : Hp} {l : List Nat} {v : V} {o : Nat ⊕ List Tm} (h : l.length ≤ 30000) (ok : okS l) (hp : ∀ p ∈ prts [32, 43, 32] l, ∀ w ∈ prts [32] p, w.length ≤ 640) (d : isDueR l o) (dv : DueR H o v) : SpV (sp_law_goes K) [.str (S l), v] H (.bl true) := fun H1 e Q q E => ⟨l, v, o, rfl, h, ok, hp, d, dv.ex e, q⟩
theorem ok_law_goes (T : Txt K mg) : FnG PP w K mg base CX0 7 T.a_law_goes T.d_law_goes ["value", "due"] (sp_law_goes K) := by
  refine okG T.F_law_goes sc_law_goes (fun vs H Q E h => ?_) (fun cdv A out s H vs Q E hr h => ?_)
  · obtain ⟨l, v, o, rfl, hl, ok, hp, d, dv, q⟩ := h
    rfl
  · obtain ⟨l, v, o, rfl, hl, ok, hp, d, dv, q⟩ := h
    refine ⟨_, (pss_cons (ps_set (i := 2) sc_law_goes.nd rfl (.inl rfl) pe_non)
    (pss_cons (ps_try_kept (i := 3) (c := .ref T.a_NoText) (Wout := fun _ _ _ _ => False) rfl rfl rfl sc_law_goes.nd rfl rfl ⟨rfl, by decide, (.inl T.e_NoText.g)⟩ takes0
      (fun W pn xe tk _ => (pss_one (ps_set (i := 2) sc_law_goes.nd rfl (.inl rfl) (callGS (ok_read_rule T) (hr.mono (by decide)) (by rfl) T.g_read_rule T.F_read_rule.kp (b_read_rule T) (fun σ => passAt tk σ) (pa_cons (pv 0) pa_nil)))))
      (fun a pn => (pss_one (ps_set (i := 2) sc_law_goes.nd rfl (.inl rfl) (pe_xk (K := K) rfl (pv 3))))))
    (pss_cons (ps_if (pt_val (pe_callB (call_isiK' (K := K) rfl) (by rfl) T.z_isinstance bt_isinstance (pa_cons (pv 1) (pa_cons (pe_bltn (v := .ty "int") (by rfl) T.z_int bt_int rfl) pa_nil))))
      (pss_one (ps_ret (pe_and (pe_callB (call_isiK' (K := K) rfl) (by rfl) T.z_isinstance bt_isinstance (pa_cons (pv 2) (pa_cons (pe_bltn (v := .ty "int") (by rfl) T.z_int bt_int rfl) pa_nil))) (pe_and (pe_not (pe_callB (call_isiK' (K := K) rfl) (by rfl) T.z_isinstance bt_isinstance (pa_cons (pv 2) (pa_cons (pe_bltn (v := .ty "bool") (by rfl) T.z_bool bt_bool rfl) pa_nil)))) (pe_one (pe_cmpR op_eq (pv 2) (pv 1) (nomark _)))))))
      pss_nil)
    (pss_one (ps_ret (pe_and (pe_callB (call_isiK' (K := K) rfl) (by rfl) T.z_isinstance bt_isinstance (pa_cons (pv 2) (pa_cons (pe_bltn (v := .ty "list") (by rfl) T.z_list bt_list rfl) pa_nil))) (pe_and (pe_cmpR op_eq (pe_callB (call_reprX (K := K) rfl hr.gd hr.rm.units) (by rfl) T.z_repr bt_repr (pa_cons (pv 2) pa_nil)) (pe_callB (call_reprX (K := K) rfl hr.gd hr.rm.units) (by rfl) T.z_repr bt_repr (pa_cons (pv 1) pa_nil)) (nomark _)) (pe_one (pe_cmpR op_eq (callG (ok_rule_text T) (hr.mono (by decide)) (by rfl) T.g_rule_text T.F_rule_text.kp (b_rule_text T) .nil pass0 (pa_cons (pv 2) pa_nil)) (pv 0) (nomark _)))))))))), ?_⟩
    refine q_asg ev_c fun H0 e0 => ?_
    refine ⟨.str (S l), rfl, l, rfl, by omega, ok, hp, fun us hu h12 r H1 hr e1 R1 => ?_, fun j r hj hr pr H3 d3 e3 hd => ?_⟩
    · cases o with
      | inl i =>
        exfalso
        obtain ⟨p, hi, hw, prev⟩ := d
        have e4 : ((prts [32, 43, 32] l).map readT)[i]? = some (readT p) := by
          rw [List.getElem?_map, hi]
          rfl
        rw [hu, List.getElem?_map] at e4
        cases g : us[i]? with
        | none =>
          rw [g] at e4
          cases e4
        | some t =>
          have := (List.getElem?_eq_some_iff.mp g).1
          rcases hw with hw | hw
          · omega
          · rw [g, hw] at e4
            cases e4
      | inr ts =>
        have em : us = ts := map_some_inj (hu.symm.trans d.1)
        subst em
        obtain ⟨h0, okt⟩ := dueR_ok hu
        have sh := rdat_ok okt h12
        obtain ⟨p, rfl, Rp⟩ := dv
        have Rp1 := Rp.ex (e0.trans e1)
        refine q_when (b := false) (et_B (ev_isi (ev_var rfl) (fun H2 e2 => by obtain ⟨bs, g7, _⟩ := Rp1.ex e2; exact ty_seql (sq_of g7)) kb_list_int)) (fun h => nomatch h) fun _ H2 e2 => ?_
        have R2 := R1.ex e2
        have Rp2 := Rp1.ex e2
        exact s_ret (v := .bl true) (ev_andV (a := true) (b := true) (ev_isi (ev_var rfl) (fun H3 e3 => by obtain ⟨bs, g7, _⟩ := R2.ex e3; exact ty_seql (sq_of g7)) kb_list_list) fun _ => ev_andV (a := true) (b := true) (ev_is (ev_op (ev_reprX (ed_Rv (ev_var rfl) R2) sh (fun y z => by cases z)) (ev_reprX (ed_Rv (ev_var rfl) Rp2) sh (fun y z => by cases z)) (rv_eq rfl)) (by simp)) fun _ => ev_is (ev_op (ev_call (ea_cons (ev_var rfl) ea_nil) (v_rule_text R2 h0 h12 okt)) (ev_var rfl) (rv_eq rfl)) (by rw [dueR_rule hu]; simp)) fun H3 e3 => q H3 ((e0.trans e1).trans (e2.trans e3))
    · cases o with
      | inr ts =>
        exfalso
        obtain ⟨d1, d2⟩ := d
        have e4 : ((prts [32, 43, 32] l).map readT)[j]? = some (readT r) := by
          rw [List.getElem?_map, hj]
          rfl
        rw [d1, List.getElem?_map] at e4
        cases g : ts[j]? with
        | none =>
          rw [g] at e4
          cases e4
        | some t =>
          have := (List.getElem?_eq_some_iff.mp g).1
          rcases hr with hr | hr
          · omega
          · rw [g, hr] at e4
            cases e4
      | inl i =>
        obtain ⟨p, hi, hw, prev⟩ := d
        have hv : v = .int (i : Int) := dv
        subst hv
        have np : ∀ {k : Nat} {q : List Nat}, (k < 12 ∧ readT q ≠ none) → ¬ (12 ≤ k ∨ readT q = none) := fun h z => by
          rcases z with z | z
          · omega
          · exact h.2 z
        have ji : j = i := first_uniq (f := fun k q => 12 ≤ k ∨ readT q = none) hj hr (fun k q hk e => np (pr k q hk e)) hi hw (fun k q hk e => np (prev k q hk e))
        subst ji
        refine ⟨true, T.e_NoText.exm T.e_NoText.s, fun _ a' ha' => ?_, fun h => nomatch h⟩
        have ga : upd (upd H3 d3 (.xd [(("index" : Str), .int (j : Int))])) a' (ExK (.ref T.a_NoText) (some d3) a') a' = some (ExK (.ref T.a_NoText) (some d3) a') := upd_same
        have nd : d3 ≠ a' := fun z => by
          rw [← z, upd_same] at ha'
          cases ha'
        have gd : upd (upd H3 d3 (.xd [(("index" : Str), .int (j : Int))])) a' (ExK (.ref T.a_NoText) (some d3) a') d3 = some (.xd [(("index" : Str), .int (j : Int))]) := by
          rw [upd_ne nd, upd_same]
        have eE : Ex H (upd (upd H3 d3 (.xd [(("index" : Str), .int (j : Int))])) a' (ExK (.ref T.a_NoText) (some d3) a')) := ((e0.trans e3).trans (Ex.new hd)).trans (Ex.new ha')
        generalize upd (upd H3 d3 (.xd [(("index" : Str), .int (j : Int))])) a' (ExK (.ref T.a_NoText) (some d3) a') = H4 at *
        refine s_asg (ev_xk (ev_var rfl) ga gd T.e_NoText.ex T.s_NoText.nf rfl) fun H5 e5 => ?_
        refine q_when (b := true) (et_B (ev_isi (ev_var rfl) (fun _ _ => .base (.int _)) kb_int_int)) (fun _ H6 e6 => ?_) (fun h => nomatch h)
        exact s_ret (v := .bl true) (ev_andV (a := true) (b := true) (ev_isi (ev_var rfl) (fun _ _ => .base (.int _)) kb_int_int) fun _ => ev_andV (a := true) (b := true) (ev_notV (ev_isi (ev_var rfl) (fun _ _ => .base (.int _)) kb_int_bool)) fun _ => ev_is (ev_op (ev_var rfl) (ev_var rfl) (rv_eq rfl)) (by simp)) fun H7 e7 => q H7 ((eE.trans e5).trans (e6.trans e7))
/-! ### law -/
def sp_law (K : PySem.W.Frag) : Sp := fun vs H Q _ => ∃ (a : Addr) (ns : List Int), vs = [.ref a] ∧ SqL K H a (vi ns) ∧ ns.length ≤ 63 ∧ ∀ H', Q (.bl true) H'
theorem ok_law (T : Txt K mg) : FnG PP w K mg base CX0 8 T.a_law T.d_law ["script"] (sp_law K) := by
  refine okG T.F_law sc_law (fun vs H Q E h => ?_) (fun cdv A out s H vs Q E hr h => ?_)
  · obtain ⟨a, ns, rfl, hS, hl, q⟩ := h
    rfl
  · obtain ⟨a, ns, rfl, hS, hl, q⟩ := h
    refine ⟨_, (pss_cons (ps_set (i := 1) sc_law.nd rfl (.inl rfl) (callG (ok_law_well T) (hr.mono (by decide)) (by rfl) T.g_law_well T.F_law_well.kp (b_law_well T) .nil pass0 (pa_cons (pv 0) (pa_cons pe_int pa_nil))))
    (pss_cons (ps_set (i := 2) sc_law.nd rfl (.inl rfl) (pe_m1 PySem.F.slot_str_join PySem.F.type_str_join (mt_joinK (K := K) rfl) pe_str (pe_lc (own := [("term", 6)]) (g := gName 6) rfl sc_law.nd (pi_listK (K := K) rfl (callG (ok_law_rule T) (hr.mono (by decide)) (by rfl) T.g_law_rule T.F_law_rule.kp (b_law_rule T) .nil pass0 (pa_cons (pv 1) (pa_cons pe_int pa_nil)))) (blkOk_by (own := [("term", 6)]) (N := ["script", "well", "value", "k", "late", "due", "term"]) (sc := defScope s_law) (by decide +kernel)) (fun _ _ _ _ _ => (pg_name (i := 6) sc_law.nd rfl (Or.inl rfl))) (fun _ _ _ _ _ => pts_nil) (fun _ _ _ _ _ => (callG (ok_law_term_text T) (hr.mono (by decide)) (by rfl) T.g_law_term_text T.F_law_term_text.kp (b_law_term_text T) .nil pass0 (pa_cons (pv 6) pa_nil))))))
    (pss_cons (ps_if (pt_not (pt_val (callG (ok_law_goes T) (hr.mono (by decide)) (by rfl) T.g_law_goes T.F_law_goes.kp (b_law_goes T) .nil pass0 (pa_cons (pv 2) (pa_cons (callG (ok_law_due T) (hr.mono (by decide)) (by rfl) T.g_law_due T.F_law_due.kp (b_law_due T) .nil pass0 (pa_cons (pv 2) pa_nil)) pa_nil)))))
      (pss_one (ps_ret pe_bl))
      pss_nil)
    (pss_cons (ps_for PassesOwn.never rfl (pi_range2 (by rfl) T.z_range (pa_cons pe_int (pa_cons (pe_callB (call_max2 rfl) (by rfl) T.z_max bt_max (pa_cons pe_int (pa_cons (pe_callB (call_min2 rfl) (by rfl) T.z_min bt_min (pa_cons pe_int (pa_cons (pe_callB (call_lenK (K := K) rfl) (by rfl) T.z_len bt_len (pa_cons (pv 0) pa_nil)) pa_nil))) pa_nil))) pa_nil))) (pg_name (i := 3) sc_law.nd rfl (.inl rfl))
      (pss_cons (ps_set (i := 4) sc_law.nd rfl (.inl rfl) (callG (ok_law_spoilt T) (hr.mono (by decide)) (by rfl) T.g_law_spoilt T.F_law_spoilt.kp (b_law_spoilt T) .nil pass0 (pa_cons (callG (ok_law_well T) (hr.mono (by decide)) (by rfl) T.g_law_well T.F_law_well.kp (b_law_well T) .nil pass0 (pa_cons (pv 0) (pa_cons (pv 3) pa_nil))) (pa_cons (pv 2) pa_nil))))
      (pss_cons (ps_set (i := 5) sc_law.nd rfl (.inl rfl) (callG (ok_law_due T) (hr.mono (by decide)) (by rfl) T.g_law_due T.F_law_due.kp (b_law_due T) .nil pass0 (pa_cons (pv 4) pa_nil)))
      (pss_cons (ps_if (pt_not (pt_val (callG (ok_law_goes T) (hr.mono (by decide)) (by rfl) T.g_law_goes T.F_law_goes.kp (b_law_goes T) .nil pass0 (pa_cons (pv 4) (pa_cons (pv 5) pa_nil)))))
        (pss_one (ps_ret pe_bl))
        pss_nil)
      (pss_one (ps_set (i := 2) sc_law.nd rfl (.inl rfl) (pe_ifExp (pt_not (pt_val (pe_callB (call_isiK' (K := K) rfl) (by rfl) T.z_isinstance bt_isinstance (pa_cons (pv 5) (pa_cons (pe_bltn (v := .ty "int") (by rfl) T.z_int bt_int rfl) pa_nil))))) (pv 4) (pv 2))))))))
    (pss_one (ps_ret pe_bl)))))), ?_⟩
    refine ⟨.ref a, rfl, a, ns, 0, rfl, hS, by decide, by decide, fun wl H1 hw1 e1 W1 => ?_⟩
    have wd : ∀ {l : List Nat}, l.length ≤ 640 → ∀ p ∈ prts [32, 43, 32] l, ∀ w ∈ prts [32] p, w.length ≤ 640 := fun h p hp w hw => by
      have := prts_len (by decide) (by decide) hp
      have := prts_len (by decide) (by decide) hw
      omega
    refine q_asgTxt (a := wl) (fun Q q => ⟨.ref wl, rfl, wl, 0, 5, rfl, W1, by decide, by decide, by decide, fun r ts H2 hr b w R h0 h5 ok => q r ts H2 hr b R h0 h5 ok⟩) (fun _ => rfl) (fun b t H1 ok g => ev_call (ea_cons (ev_var rfl) ea_nil) (v_law_term_text (st_of g) ok.n)) fun ts H2 b2 t0 t5 okt => ?_
    have val0 : ValR (ruleT ts) := ⟨ts, rfl, t0, by omega, okt⟩
    have eH2 : Ex H H2 := ex_but e1 hw1 b2
    obtain ⟨p0, l0, ok0, pt0, d, d0⟩ := val0.facts
    refine q_when (b := false) (et_not (a := true) (et_B (ev_callVP (ev_var rfl) (ep_call (ea_cons (ev_var rfl) ea_nil) (p_due (o := .inr d) (by omega) ok0 (wd (by omega)) d0)) fun y H4 e4 dv => v_goes (by omega) ok0 (wd (by omega)) d0 dv))) (fun h => nomatch h) fun _ H4 e4 => ?_
    have eH4 : Ex H H4 := eH2.trans e4
    refine q_forR2 (lo := 1) (ea_cons ev_c (ea_cons (ev_max2 ev_c (ev_min2 ev_c (ev_len (ev_var rfl) (ex_l eH4 hS)))) ea_nil)) ?_ (fun i σ' H' => ∃ (l : List Nat) (y3 y4 y5 : Option V), σ' = [some (.ref a), some (.ref wl), some (.str (S l)), y3, y4, y5, none] ∧ Ex H H' ∧ ValR l) ?_ ?_ ?_
    · refine ⟨by decide, by decide, ?_, ?_⟩ <;> split <;> split <;> omega
    · intro H5 e5
      exact ⟨_, _, _, _, rfl, eH4.trans e5, val0⟩
    · rintro i σ' H' hi ⟨l, y3, y4, y5, rfl, e, vok⟩
      have h62 : (i : Int) < 62 := by
        split at hi <;> split at hi <;> omega
      obtain ⟨pos, vl, okl, ptl, _⟩ := vok.facts
      refine ⟨.ref a, rfl, .int (1 + (i : Int)), rfl, a, ns, 1 + (i : Int), rfl, ex_l e hS, by omega, by omega, fun p H5 hp5 e5 W5 => ⟨.str (S l), rfl, p, l, 0, rfl, W5, by decide, pos, by omega, okl, ptl, fun m H6 okm ml b6 => ?_⟩⟩
      have e6 : Ex H H6 := ex_but (e.trans e5) (fresh_back e hp5) b6
      have od : ∃ o, isDueR m o := by
        rcases first_bad 12 (prts [32, 43, 32] m) with ⟨zs, h, h'⟩ | ⟨i, q, h1, h2, h3⟩
        · exact ⟨.inr zs, h, h'⟩
        · exact ⟨.inl i, q, h1, h2, h3⟩
      obtain ⟨o, ho⟩ := od
      refine q_asgP (ep_call (ea_cons (ev_var rfl) ea_nil) (p_due (o := o) (by omega) okm (wd (by omega)) ho)) fun v H8 e8 dv => ?_
      refine q_when (b := false) (et_not (a := true) (et_B (ev_call (ea_cons (ev_var rfl) (ea_cons (ev_var rfl) ea_nil)) (v_goes (by omega) okm (wd (by omega)) ho dv)))) (fun h => nomatch h) fun _ H9 e9 => ?_
      have e69 := e6.trans (e8.trans e9)
      cases o with
      | inl j =>
        have hv : v = .int (j : Int) := dv
        subst hv
        refine s_asg (v := .str (S l)) (ev_if (b := false) (et_not (a := true) (et_B (ev_isi (ev_var rfl) (fun _ _ => .base (.int _)) kb_int_int))) (fun h => nomatch h) (fun _ => ev_var rfl)) fun H10 e10 => ?_
        exact ⟨l, _, _, _, rfl, e69.trans e10, vok⟩
      | inr zs =>
        obtain ⟨zp, rfl, R⟩ := dv
        refine s_asg (v := .str (S m)) (ev_if (b := true) (et_not (a := false) (et_B (ev_isi (ev_var rfl) (fun H10 e10 => by obtain ⟨bs, g7, _⟩ := R.ex (e9.trans e10); exact ty_seql (sq_of g7)) kb_list_int))) (fun _ => ev_var rfl) (fun h => nomatch h)) fun H10 e10 => ?_
        exact ⟨m, _, _, _, rfl, e69.trans e10, ValR.of ho⟩
    · rintro σ' H' ⟨l, y3, y4, y5, rfl, e, vok⟩
      exact s_ret ev_c fun H2 _ => q H2
end
theorem all_mk {w : World} {K : PySem.W.Frag} {h : Heap} {mg : Str → Option Value} {fa : Addr} (X : K.In h) (G : h.Ns mainGlobals mg) (hfa : mg "law" = some (.ref fa))
    {f0 : Addr} {od0 an0 : Option Addr} {sl0 : Array (Option Value)} {oc0 kV0 dc0 pm0 cd0 ct0 : Value}
    (a0 : PySem.W.nsIn K mainGlobals "is_whole" = some (some (.ref f0))) (l0 : K.lookup f0 = some ⟨oc0, od0, .func (PySem.W.fnOf "is_whole" "is_whole" (defArgs s_is_whole) (defBody s_is_whole) (defScope s_is_whole) .none kV0 dc0 pm0 an0 cd0 ct0), sl0⟩) (c0 : PySem.W.codeIn K cd0 "is_whole" = true) (k0 : PySem.W.keepIn K (.ref f0) = true)
    {f1 : Addr} {od1 an1 : Option Addr} {sl1 : Array (Option Value)} {oc1 kV1 dc1 pm1 cd1 ct1 : Value}
    (a1 : PySem.W.nsIn K mainGlobals "to_power" = some (some (.ref f1))) (l1 : K.lookup f1 = some ⟨oc1, od1, .func (PySem.W.fnOf "to_power" "to_power" (defArgs s_to_power) (defBody s_to_power) (defScope s_to_power) .none kV1 dc1 pm1 an1 cd1 ct1), sl1⟩) (c1 : PySem.W.codeIn K cd1 "to_power" = true) (k1 : PySem.W.keepIn K (.ref f1) = true)
    {f2 : Addr} {od2 an2 : Option Addr} {sl2 : Array (Option Value)} {oc2 kV2 dc2 pm2 cd2 ct2 : Value}
    (a2 : PySem.W.nsIn K mainGlobals "_parts" = some (some (.ref f2))) (l2 : K.lookup f2 = some ⟨oc2, od2, .func (PySem.W.fnOf "_parts" "_parts" (defArgs s_parts) (defBody s_parts) (defScope s_parts) .none kV2 dc2 pm2 an2 cd2 ct2), sl2⟩) (c2 : PySem.W.codeIn K cd2 "_parts" = true) (k2 : PySem.W.keepIn K (.ref f2) = true)
    {f3 : Addr} {od3 an3 : Option Addr} {sl3 : Array (Option Value)} {oc3 kV3 dc3 pm3 cd3 ct3 : Value}
    (a3 : PySem.W.nsIn K mainGlobals "_law_well" = some (some (.ref f3))) (l3 : K.lookup f3 = some ⟨oc3, od3, .func (PySem.W.fnOf "_law_well" "_law_well" (defArgs s_law_well) (defBody s_law_well) (defScope s_law_well) .none kV3 dc3 pm3 an3 cd3 ct3), sl3⟩) (c3 : PySem.W.codeIn K cd3 "_law_well" = true) (k3 : PySem.W.keepIn K (.ref f3) = true)
    {f4 : Addr} {od4 an4 : Option Addr} {sl4 : Array (Option Value)} {oc4 kV4 dc4 pm4 cd4 ct4 : Value}
    (a4 : PySem.W.nsIn K mainGlobals "_law_pull" = some (some (.ref f4))) (l4 : K.lookup f4 = some ⟨oc4, od4, .func (PySem.W.fnOf "_law_pull" "_law_pull" (defArgs s_law_pull) (defBody s_law_pull) (defScope s_law_pull) .none kV4 dc4 pm4 an4 cd4 ct4), sl4⟩) (c4 : PySem.W.codeIn K cd4 "_law_pull" = true) (k4 : PySem.W.keepIn K (.ref f4) = true)
    {f5 : Addr} {od5 an5 : Option Addr} {sl5 : Array (Option Value)} {oc5 kV5 dc5 pm5 cd5 ct5 : Value}
    (a5 : PySem.W.nsIn K mainGlobals "_law_bracketed" = some (some (.ref f5))) (l5 : K.lookup f5 = some ⟨oc5, od5, .func (PySem.W.fnOf "_law_bracketed" "_law_bracketed" (defArgs s_law_bracketed) (defBody s_law_bracketed) (defScope s_law_bracketed) .none kV5 dc5 pm5 an5 cd5 ct5), sl5⟩) (c5 : PySem.W.codeIn K cd5 "_law_bracketed" = true) (k5 : PySem.W.keepIn K (.ref f5) = true)
    {f6 : Addr} {od6 an6 : Option Addr} {sl6 : Array (Option Value)} {oc6 kV6 dc6 pm6 cd6 ct6 : Value}
    (a6 : PySem.W.nsIn K mainGlobals "_law_digits_of" = some (some (.ref f6))) (l6 : K.lookup f6 = some ⟨oc6, od6, .func (PySem.W.fnOf "_law_digits_of" "_law_digits_of" (defArgs s_law_digits_of) (defBody s_law_digits_of) (defScope s_law_digits_of) .none kV6 dc6 pm6 an6 cd6 ct6), sl6⟩) (c6 : PySem.W.codeIn K cd6 "_law_digits_of" = true) (k6 : PySem.W.keepIn K (.ref f6) = true)
    {f7 : Addr} {od7 an7 : Option Addr} {sl7 : Array (Option Value)} {oc7 kV7 dc7 pm7 cd7 ct7 : Value}
    (a7 : PySem.W.nsIn K mainGlobals "_law_within" = some (some (.ref f7))) (l7 : K.lookup f7 = some ⟨oc7, od7, .func (PySem.W.fnOf "_law_within" "_law_within" (defArgs s_law_within) (defBody s_law_within) (defScope s_law_within) .none kV7 dc7 pm7 an7 cd7 ct7), sl7⟩) (c7 : PySem.W.codeIn K cd7 "_law_within" = true) (k7 : PySem.W.keepIn K (.ref f7) = true)
    {f8 : Addr} {od8 an8 : Option Addr} {sl8 : Array (Option Value)} {oc8 kV8 dc8 pm8 cd8 ct8 : Value}
    (a8 : PySem.W.nsIn K mainGlobals "is_from_to" = some (some (.ref f8))) (l8 : K.lookup f8 = some ⟨oc8, od8, .func (PySem.W.fnOf "is_from_to" "is_from_to" (defArgs s_is_from_to) (defBody s_is_from_to) (defScope s_is_from_to) .none kV8 dc8 pm8 an8 cd8 ct8), sl8⟩) (c8 : PySem.W.codeIn K cd8 "is_from_to" = true) (k8 : PySem.W.keepIn K (.ref f8) = true)
    {f9 : Addr} {od9 an9 : Option Addr} {sl9 : Array (Option Value)} {oc9 kV9 dc9 pm9 cd9 ct9 : Value}
    (a9 : PySem.W.nsIn K mainGlobals "read_natural" = some (some (.ref f9))) (l9 : K.lookup f9 = some ⟨oc9, od9, .func (PySem.W.fnOf "read_natural" "read_natural" (defArgs s_read_natural) (defBody s_read_natural) (defScope s_read_natural) .none kV9 dc9 pm9 an9 cd9 ct9), sl9⟩) (c9 : PySem.W.codeIn K cd9 "read_natural" = true) (k9 : PySem.W.keepIn K (.ref f9) = true)
    {f10 : Addr} {od10 an10 : Option Addr} {sl10 : Array (Option Value)} {oc10 kV10 dc10 pm10 cd10 ct10 : Value}
    (a10 : PySem.W.nsIn K mainGlobals "_law_term_text" = some (some (.ref f10))) (l10 : K.lookup f10 = some ⟨oc10, od10, .func (PySem.W.fnOf "_law_term_text" "_law_term_text" (defArgs s_law_term_text) (defBody s_law_term_text) (defScope s_law_term_text) .none kV10 dc10 pm10 an10 cd10 ct10), sl10⟩) (c10 : PySem.W.codeIn K cd10 "_law_term_text" = true) (k10 : PySem.W.keepIn K (.ref f10) = true)
    {f11 : Addr} {od11 an11 : Option Addr} {sl11 : Array (Option Value)} {oc11 kV11 dc11 pm11 cd11 ct11 : Value}
    (a11 : PySem.W.nsIn K mainGlobals "_law_number_of" = some (some (.ref f11))) (l11 : K.lookup f11 = some ⟨oc11, od11, .func (PySem.W.fnOf "_law_number_of" "_law_number_of" (defArgs s_law_number_of) (defBody s_law_number_of) (defScope s_law_number_of) .none kV11 dc11 pm11 an11 cd11 ct11), sl11⟩) (c11 : PySem.W.codeIn K cd11 "_law_number_of" = true) (k11 : PySem.W.keepIn K (.ref f11) = true)
    {f12 : Addr} {od12 an12 : Option Addr} {sl12 : Array (Option Value)} {oc12 kV12 dc12 pm12 cd12 ct12 : Value}
    (a12 : PySem.W.nsIn K mainGlobals "is_term" = some (some (.ref f12))) (l12 : K.lookup f12 = some ⟨oc12, od12, .func (PySem.W.fnOf "is_term" "is_term" (defArgs s_is_term) (defBody s_is_term) (defScope s_is_term) .none kV12 dc12 pm12 an12 cd12 ct12), sl12⟩) (c12 : PySem.W.codeIn K cd12 "is_term" = true) (k12 : PySem.W.keepIn K (.ref f12) = true)
    {f13 : Addr} {od13 an13 : Option Addr} {sl13 : Array (Option Value)} {oc13 kV13 dc13 pm13 cd13 ct13 : Value}
    (a13 : PySem.W.nsIn K mainGlobals "written" = some (some (.ref f13))) (l13 : K.lookup f13 = some ⟨oc13, od13, .func (PySem.W.fnOf "written" "written" (defArgs s_written) (defBody s_written) (defScope s_written) .none kV13 dc13 pm13 an13 cd13 ct13), sl13⟩) (c13 : PySem.W.codeIn K cd13 "written" = true) (k13 : PySem.W.keepIn K (.ref f13) = true)
    {f14 : Addr} {od14 an14 : Option Addr} {sl14 : Array (Option Value)} {oc14 kV14 dc14 pm14 cd14 ct14 : Value}
    (a14 : PySem.W.nsIn K mainGlobals "read_whole" = some (some (.ref f14))) (l14 : K.lookup f14 = some ⟨oc14, od14, .func (PySem.W.fnOf "read_whole" "read_whole" (defArgs s_read_whole) (defBody s_read_whole) (defScope s_read_whole) .none kV14 dc14 pm14 an14 cd14 ct14), sl14⟩) (c14 : PySem.W.codeIn K cd14 "read_whole" = true) (k14 : PySem.W.keepIn K (.ref f14) = true)
    {f15 : Addr} {od15 an15 : Option Addr} {sl15 : Array (Option Value)} {oc15 kV15 dc15 pm15 cd15 ct15 : Value}
    (a15 : PySem.W.nsIn K mainGlobals "_law_one_of" = some (some (.ref f15))) (l15 : K.lookup f15 = some ⟨oc15, od15, .func (PySem.W.fnOf "_law_one_of" "_law_one_of" (defArgs s_law_one_of) (defBody s_law_one_of) (defScope s_law_one_of) .none kV15 dc15 pm15 an15 cd15 ct15), sl15⟩) (c15 : PySem.W.codeIn K cd15 "_law_one_of" = true) (k15 : PySem.W.keepIn K (.ref f15) = true)
    {f16 : Addr} {od16 an16 : Option Addr} {sl16 : Array (Option Value)} {oc16 kV16 dc16 pm16 cd16 ct16 : Value}
    (a16 : PySem.W.nsIn K mainGlobals "_law_bracketed_of" = some (some (.ref f16))) (l16 : K.lookup f16 = some ⟨oc16, od16, .func (PySem.W.fnOf "_law_bracketed_of" "_law_bracketed_of" (defArgs s_law_bracketed_of) (defBody s_law_bracketed_of) (defScope s_law_bracketed_of) .none kV16 dc16 pm16 an16 cd16 ct16), sl16⟩) (c16 : PySem.W.codeIn K cd16 "_law_bracketed_of" = true) (k16 : PySem.W.keepIn K (.ref f16) = true)
    {f17 : Addr} {od17 an17 : Option Addr} {sl17 : Array (Option Value)} {oc17 kV17 dc17 pm17 cd17 ct17 : Value}
    (a17 : PySem.W.nsIn K mainGlobals "check_rule" = some (some (.ref f17))) (l17 : K.lookup f17 = some ⟨oc17, od17, .func (PySem.W.fnOf "check_rule" "check_rule" (defArgs s_check_rule) (defBody s_check_rule) (defScope s_check_rule) .none kV17 dc17 pm17 an17 cd17 ct17), sl17⟩) (c17 : PySem.W.codeIn K cd17 "check_rule" = true) (k17 : PySem.W.keepIn K (.ref f17) = true)
    {f18 : Addr} {od18 an18 : Option Addr} {sl18 : Array (Option Value)} {oc18 kV18 dc18 pm18 cd18 ct18 : Value}
    (a18 : PySem.W.nsIn K mainGlobals "_bracketed" = some (some (.ref f18))) (l18 : K.lookup f18 = some ⟨oc18, od18, .func (PySem.W.fnOf "_bracketed" "_bracketed" (defArgs s_bracketed) (defBody s_bracketed) (defScope s_bracketed) .none kV18 dc18 pm18 an18 cd18 ct18), sl18⟩) (c18 : PySem.W.codeIn K cd18 "_bracketed" = true) (k18 : PySem.W.keepIn K (.ref f18) = true)
    {f19 : Addr} {od19 an19 : Option Addr} {sl19 : Array (Option Value)} {oc19 kV19 dc19 pm19 cd19 ct19 : Value}
    (a19 : PySem.W.nsIn K mainGlobals "_read_bracketed" = some (some (.ref f19))) (l19 : K.lookup f19 = some ⟨oc19, od19, .func (PySem.W.fnOf "_read_bracketed" "_read_bracketed" (defArgs s_read_bracketed) (defBody s_read_bracketed) (defScope s_read_bracketed) .none kV19 dc19 pm19 an19 cd19 ct19), sl19⟩) (c19 : PySem.W.codeIn K cd19 "_read_bracketed" = true) (k19 : PySem.W.keepIn K (.ref f19) = true)
    {f20 : Addr} {od20 an20 : Option Addr} {sl20 : Array (Option Value)} {oc20 kV20 dc20 pm20 cd20 ct20 : Value}
    (a20 : PySem.W.nsIn K mainGlobals "_law_term" = some (some (.ref f20))) (l20 : K.lookup f20 = some ⟨oc20, od20, .func (PySem.W.fnOf "_law_term" "_law_term" (defArgs s_law_term) (defBody s_law_term) (defScope s_law_term) .none kV20 dc20 pm20 an20 cd20 ct20), sl20⟩) (c20 : PySem.W.codeIn K cd20 "_law_term" = true) (k20 : PySem.W.keepIn K (.ref f20) = true)
    {f21 : Addr} {od21 an21 : Option Addr} {sl21 : Array (Option Value)} {oc21 kV21 dc21 pm21 cd21 ct21 : Value}
    (a21 : PySem.W.nsIn K mainGlobals "_law_term_of" = some (some (.ref f21))) (l21 : K.lookup f21 = some ⟨oc21, od21, .func (PySem.W.fnOf "_law_term_of" "_law_term_of" (defArgs s_law_term_of) (defBody s_law_term_of) (defScope s_law_term_of) .none kV21 dc21 pm21 an21 cd21 ct21), sl21⟩) (c21 : PySem.W.codeIn K cd21 "_law_term_of" = true) (k21 : PySem.W.keepIn K (.ref f21) = true)
    {f22 : Addr} {od22 an22 : Option Addr} {sl22 : Array (Option Value)} {oc22 kV22 dc22 pm22 cd22 ct22 : Value}
    (a22 : PySem.W.nsIn K mainGlobals "_law_spoilt" = some (some (.ref f22))) (l22 : K.lookup f22 = some ⟨oc22, od22, .func (PySem.W.fnOf "_law_spoilt" "_law_spoilt" (defArgs s_law_spoilt) (defBody s_law_spoilt) (defScope s_law_spoilt) .none kV22 dc22 pm22 an22 cd22 ct22), sl22⟩) (c22 : PySem.W.codeIn K cd22 "_law_spoilt" = true) (k22 : PySem.W.keepIn K (.ref f22) = true)
    {f23 : Addr} {od23 an23 : Option Addr} {sl23 : Array (Option Value)} {oc23 kV23 dc23 pm23 cd23 ct23 : Value}
    (a23 : PySem.W.nsIn K mainGlobals "_term_text" = some (some (.ref f23))) (l23 : K.lookup f23 = some ⟨oc23, od23, .func (PySem.W.fnOf "_term_text" "_term_text" (defArgs s_term_text) (defBody s_term_text) (defScope s_term_text) .none kV23 dc23 pm23 an23 cd23 ct23), sl23⟩) (c23 : PySem.W.codeIn K cd23 "_term_text" = true) (k23 : PySem.W.keepIn K (.ref f23) = true)
    {f24 : Addr} {od24 an24 : Option Addr} {sl24 : Array (Option Value)} {oc24 kV24 dc24 pm24 cd24 ct24 : Value}
    (a24 : PySem.W.nsIn K mainGlobals "_read_term" = some (some (.ref f24))) (l24 : K.lookup f24 = some ⟨oc24, od24, .func (PySem.W.fnOf "_read_term" "_read_term" (defArgs s_read_term) (defBody s_read_term) (defScope s_read_term) .none kV24 dc24 pm24 an24 cd24 ct24), sl24⟩) (c24 : PySem.W.codeIn K cd24 "_read_term" = true) (k24 : PySem.W.keepIn K (.ref f24) = true)
    {f25 : Addr} {od25 an25 : Option Addr} {sl25 : Array (Option Value)} {oc25 kV25 dc25 pm25 cd25 ct25 : Value}
    (a25 : PySem.W.nsIn K mainGlobals "_law_rule" = some (some (.ref f25))) (l25 : K.lookup f25 = some ⟨oc25, od25, .func (PySem.W.fnOf "_law_rule" "_law_rule" (defArgs s_law_rule) (defBody s_law_rule) (defScope s_law_rule) .none kV25 dc25 pm25 an25 cd25 ct25), sl25⟩) (c25 : PySem.W.codeIn K cd25 "_law_rule" = true) (k25 : PySem.W.keepIn K (.ref f25) = true)
    {f26 : Addr} {od26 an26 : Option Addr} {sl26 : Array (Option Value)} {oc26 kV26 dc26 pm26 cd26 ct26 : Value}
    (a26 : PySem.W.nsIn K mainGlobals "_law_due" = some (some (.ref f26))) (l26 : K.lookup f26 = some ⟨oc26, od26, .func (PySem.W.fnOf "_law_due" "_law_due" (defArgs s_law_due) (defBody s_law_due) (defScope s_law_due) .none kV26 dc26 pm26 an26 cd26 ct26), sl26⟩) (c26 : PySem.W.codeIn K cd26 "_law_due" = true) (k26 : PySem.W.keepIn K (.ref f26) = true)
    {f27 : Addr} {od27 an27 : Option Addr} {sl27 : Array (Option Value)} {oc27 kV27 dc27 pm27 cd27 ct27 : Value}
    (a27 : PySem.W.nsIn K mainGlobals "rule_text" = some (some (.ref f27))) (l27 : K.lookup f27 = some ⟨oc27, od27, .func (PySem.W.fnOf "rule_text" "rule_text" (defArgs s_rule_text) (defBody s_rule_text) (defScope s_rule_text) .none kV27 dc27 pm27 an27 cd27 ct27), sl27⟩) (c27 : PySem.W.codeIn K cd27 "rule_text" = true) (k27 : PySem.W.keepIn K (.ref f27) = true)
    {f28 : Addr} {od28 an28 : Option Addr} {sl28 : Array (Option Value)} {oc28 kV28 dc28 pm28 cd28 ct28 : Value}
    (a28 : PySem.W.nsIn K mainGlobals "read_rule" = some (some (.ref f28))) (l28 : K.lookup f28 = some ⟨oc28, od28, .func (PySem.W.fnOf "read_rule" "read_rule" (defArgs s_read_rule) (defBody s_read_rule) (defScope s_read_rule) .none kV28 dc28 pm28 an28 cd28 ct28), sl28⟩) (c28 : PySem.W.codeIn K cd28 "read_rule" = true) (k28 : PySem.W.keepIn K (.ref f28) = true)
    {f29 : Addr} {od29 an29 : Option Addr} {sl29 : Array (Option Value)} {oc29 kV29 dc29 pm29 cd29 ct29 : Value}
    (a29 : PySem.W.nsIn K mainGlobals "_law_goes" = some (some (.ref f29))) (l29 : K.lookup f29 = some ⟨oc29, od29, .func (PySem.W.fnOf "_law_goes" "_law_goes" (defArgs s_law_goes) (defBody s_law_goes) (defScope s_law_goes) .none kV29 dc29 pm29 an29 cd29 ct29), sl29⟩) (c29 : PySem.W.codeIn K cd29 "_law_goes" = true) (k29 : PySem.W.keepIn K (.ref f29) = true)
    {f30 : Addr} {od30 an30 : Option Addr} {sl30 : Array (Option Value)} {oc30 kV30 dc30 pm30 cd30 ct30 : Value}
    (a30 : PySem.W.nsIn K mainGlobals "law" = some (some (.ref f30))) (l30 : K.lookup f30 = some ⟨oc30, od30, .func (PySem.W.fnOf "law" "law" (defArgs s_law) (defBody s_law) (defScope s_law) .none kV30 dc30 pm30 an30 cd30 ct30), sl30⟩) (c30 : PySem.W.codeIn K cd30 "law" = true) (k30 : PySem.W.keepIn K (.ref f30) = true)
    {t_MOST_COUNT : Tok} (m_MOST_COUNT : PySem.W.nsIn K mainGlobals "MOST_COUNT" = some (some (.int (1000000) t_MOST_COUNT)))
    {t_MOST_TERMS : Tok} (m_MOST_TERMS : PySem.W.nsIn K mainGlobals "MOST_TERMS" = some (some (.int (12) t_MOST_TERMS)))
    {t__BETWEEN_TERMS : Tok} (m__BETWEEN_TERMS : PySem.W.nsIn K mainGlobals "_BETWEEN_TERMS" = some (some (.str " + " t__BETWEEN_TERMS)))
    {t__BITS : Tok} (m__BITS : PySem.W.nsIn K mainGlobals "_BITS" = some (some (.int (14000) t__BITS)))
    {t__DIGITS : Tok} (m__DIGITS : PySem.W.nsIn K mainGlobals "_DIGITS" = some (some (.int (4000) t__DIGITS)))
    {u_KINDS : Addr} {v_KINDS : Option Addr} {w_KINDS : Nat} {x_KINDS : Array (Option Value)} 
    {u_KINDS_0 : Addr} {v_KINDS_0 : Option Addr} {w_KINDS_0 : Nat} {x_KINDS_0 : Array (Option Value)}  {tk_KINDS_0_0 : Tok} {tk_KINDS_0_1 : Tok} {tk_KINDS_0_2 : Tok}
    {u_KINDS_1 : Addr} {v_KINDS_1 : Option Addr} {w_KINDS_1 : Nat} {x_KINDS_1 : Array (Option Value)}  {tk_KINDS_1_0 : Tok} {tk_KINDS_1_1 : Tok} {tk_KINDS_1_2 : Tok}
    {u_KINDS_2 : Addr} {v_KINDS_2 : Option Addr} {w_KINDS_2 : Nat} {x_KINDS_2 : Array (Option Value)}  {tk_KINDS_2_0 : Tok} {tk_KINDS_2_1 : Tok} {tk_KINDS_2_2 : Tok}
    (zt_KINDS : PySem.W.nsIn K mainGlobals "KINDS" = some (some (.ref u_KINDS)))
    (yt_KINDS : K.lookup u_KINDS = some ⟨.type "tuple", v_KINDS, .seq #[.ref u_KINDS_0, .ref u_KINDS_1, .ref u_KINDS_2] w_KINDS, x_KINDS⟩)
    (yt_KINDS_0 : K.lookup u_KINDS_0 = some ⟨.type "tuple", v_KINDS_0, .seq #[.str "power" tk_KINDS_0_0, .int (-40) tk_KINDS_0_1, .int (40) tk_KINDS_0_2] w_KINDS_0, x_KINDS_0⟩)
    (yt_KINDS_1 : K.lookup u_KINDS_1 = some ⟨.type "tuple", v_KINDS_1, .seq #[.str "ring" tk_KINDS_1_0, .int (1) tk_KINDS_1_1, .int (300) tk_KINDS_1_2] w_KINDS_1, x_KINDS_1⟩)
    (yt_KINDS_2 : K.lookup u_KINDS_2 = some ⟨.type "tuple", v_KINDS_2, .seq #[.str "places" tk_KINDS_2_0, .int (1) tk_KINDS_2_1, .int (6) tk_KINDS_2_2] w_KINDS_2, x_KINDS_2⟩)
    (z_abs : PySem.W.nsIn K mainGlobals "abs" = some none)
    (z_any : PySem.W.nsIn K mainGlobals "any" = some none)
    (z_bool : PySem.W.nsIn K mainGlobals "bool" = some none)
    (z_enumerate : PySem.W.nsIn K mainGlobals "enumerate" = some none)
    (z_int : PySem.W.nsIn K mainGlobals "int" = some none)
    (z_isinstance : PySem.W.nsIn K mainGlobals "isinstance" = some none)
    (z_len : PySem.W.nsIn K mainGlobals "len" = some none)
    (z_list : PySem.W.nsIn K mainGlobals "list" = some none)
    (z_max : PySem.W.nsIn K mainGlobals "max" = some none)
    (z_min : PySem.W.nsIn K mainGlobals "min" = some none)
    (z_range : PySem.W.nsIn K mainGlobals "range" = some none)
    (z_repr : PySem.W.nsIn K mainGlobals "repr" = some none)
    (z_str : PySem.W.nsIn K mainGlobals "str" = some none)
    (z_tuple : PySem.W.nsIn K mainGlobals "tuple" = some none)
    {a_NoText : Addr} (ea_NoText : PySem.W.nsIn K mainGlobals "NoText" = some (some (.ref a_NoText)))
    (ek_NoText : PySem.W.keepIn K (.ref a_NoText) = true)
    (et_NoText : PySem.W.typeIn K (.ref a_NoText) = some (.type "type"))
    (es_NoText : PySem.W.subIn K (.ref a_NoText) (.ref a_NoText) = some true)
    (ev_NoText : PySem.W.subIn K (.ref a_NoText) (.type "ValueError") = some true)
    (e1_NoText : PySem.W.findIn K (.ref a_NoText) "__getattribute__" = some (some (.builtin "BaseException.__getattribute__")))
    (e2_NoText : PySem.W.findIn K (.ref a_NoText) "__getattr__" = some none)
    (e3_NoText : PySem.W.subIn K (.ref a_NoText) (.type "BaseException") = some true)
    (e4_NoText : PySem.W.hasDictIn K a_NoText = true)
    (e5_NoText : PySem.W.findIn K (.ref a_NoText) "__class__" = some (some (.builtin "object.__class__")))
    (e8_NoText : PySem.W.mroIn K a_NoText (.type "object") = some true)
    (e6 : PySem.W.specialIn K (.builtin "object.__class__") "__get__" = some (some (.builtin "getset_descriptor.__get__"))) (e7 : PySem.W.takesIn K (.builtin "object.__class__") = some true)
    (no : PySem.W.nsIn K cStatics "thirdparty.any" = some none) (gS : PySem.W.nsIn K mainGlobals "super" = some none)
    {nm_NoText q_NoText : Str} {N_NoText : Addr} {bs_NoText bm_NoText : List Value} {sn_NoText : List Str} {sub_NoText : List Value} {ab_NoText : Bool} {col_NoText : Option Bool} {dd_NoText : Option Addr} {k0_NoText k1_NoText k2_NoText k3_NoText k5_NoText : Option Value} {fi_NoText cda_NoText cc_NoText : Addr}
    {qual_NoText : Str} {oc_NoText kV_NoText doc_NoText pm_NoText ct_NoText : Value} {od_NoText an_NoText : Option Addr} {osl_NoText csl_NoText ccs_NoText : Array (Option Value)} {cl_NoText ccl_NoText : Value} {cld_NoText cdd_NoText : Option Addr} {vs_NoText : Array Value} {file_NoText : Str} {tf_NoText : Tok}
    (lk_NoText : K.lookup a_NoText = some (excClassObj nm_NoText q_NoText a_NoText N_NoText bs_NoText bm_NoText true sn_NoText sub_NoText ab_NoText col_NoText dd_NoText k0_NoText k1_NoText k2_NoText k3_NoText k5_NoText "ValueError.__new__"))
    (rv_NoText : PySem.HandSPX.refsVE bm_NoText = true)
    (sa_NoText : PySem.W.findIn K (.ref a_NoText) "__setattr__" = some (some (.builtin "object.__setattr__")))
    (iC_NoText : PySem.W.findIn K (.ref a_NoText) "__init__" = some (some (.ref fi_NoText)))
    (tI_NoText : PySem.W.typeIn K (.ref fi_NoText) = some (.type "function"))
    (nf_NoText : PySem.W.findIn K (.ref a_NoText) "index" = some none)
    (up_NoText : PySem.W.ks_superIn K a_NoText a_NoText "__init__" = some (some (.builtin "ValueError.__init__")))
    (sC_NoText : PySem.W.mroIn K a_NoText (.ref a_NoText) = some true)
    (lI_NoText : K.lookup fi_NoText = some ⟨oc_NoText, od_NoText, .func (PySem.W.fnX "__init__" qual_NoText (defArgs c_NoText) (defBody c_NoText) (defScope c_NoText) [("__class__", cc_NoText)] .none kV_NoText doc_NoText pm_NoText an_NoText (.ref cda_NoText) ct_NoText), osl_NoText⟩)
    (cI_NoText : PySem.W.codeIn K (.ref cda_NoText) qual_NoText = true)
    (lC_NoText : K.lookup cc_NoText = some ⟨cl_NoText, cld_NoText, .cell (some (.ref a_NoText)), csl_NoText⟩)
    (lD_NoText : K.lookup cda_NoText = some ⟨ccl_NoText, cdd_NoText, .fields vs_NoText, ccs_NoText⟩)
    (hv_NoText : vs_NoText[2]? = some (.str file_NoText tf_NoText))
    (hf_NoText : ((PP.main.file : Str) == file_NoText) = true)
    : ∃ fd : FuncData, (∀ (s : Shared) (v : Value), BindsTo s fd ⟨[v], []⟩ [("script", v)]) ∧ ∀ base : Heap, K.In base → base.Ns mainGlobals mg → FnG PySem.Challenge.rw_backafter_k56_whole_rule_texts_spoilt_ag.prog w K mg base CX0 8 fa fd ["script"] (sp_law K) := by
  have e := hfa.symm.trans (PySem.W.mg_of X G a30)
  cases e
  let T : Txt K mg := {
    a_is_whole := _
    d_is_whole := _
    F_is_whole := fun_mk (st := s_is_whole) l0 c0 k0
    g_is_whole := PySem.W.mg_of X G a0
    a_to_power := _
    d_to_power := _
    F_to_power := fun_mk (st := s_to_power) l1 c1 k1
    g_to_power := PySem.W.mg_of X G a1
    a_parts := _
    d_parts := _
    F_parts := fun_mk (st := s_parts) l2 c2 k2
    g_parts := PySem.W.mg_of X G a2
    a_law_well := _
    d_law_well := _
    F_law_well := fun_mk (st := s_law_well) l3 c3 k3
    g_law_well := PySem.W.mg_of X G a3
    a_law_pull := _
    d_law_pull := _
    F_law_pull := fun_mk (st := s_law_pull) l4 c4 k4
    g_law_pull := PySem.W.mg_of X G a4
    a_law_bracketed := _
    d_law_bracketed := _
    F_law_bracketed := fun_mk (st := s_law_bracketed) l5 c5 k5
    g_law_bracketed := PySem.W.mg_of X G a5
    a_law_digits_of := _
    d_law_digits_of := _
    F_law_digits_of := fun_mk (st := s_law_digits_of) l6 c6 k6
    g_law_digits_of := PySem.W.mg_of X G a6
    a_law_within := _
    d_law_within := _
    F_law_within := fun_mk (st := s_law_within) l7 c7 k7
    g_law_within := PySem.W.mg_of X G a7
    a_is_from_to := _
    d_is_from_to := _
    F_is_from_to := fun_mk (st := s_is_from_to) l8 c8 k8
    g_is_from_to := PySem.W.mg_of X G a8
    a_read_natural := _
    d_read_natural := _
    F_read_natural := fun_mk (st := s_read_natural) l9 c9 k9
    g_read_natural := PySem.W.mg_of X G a9
    a_law_term_text := _
    d_law_term_text := _
    F_law_term_text := fun_mk (st := s_law_term_text) l10 c10 k10
    g_law_term_text := PySem.W.mg_of X G a10
    a_law_number_of := _
    d_law_number_of := _
    F_law_number_of := fun_mk (st := s_law_number_of) l11 c11 k11
    g_law_number_of := PySem.W.mg_of X G a11
    a_is_term := _
    d_is_term := _
    F_is_term := fun_mk (st := s_is_term) l12 c12 k12
    g_is_term := PySem.W.mg_of X G a12
    a_written := _
    d_written := _
    F_written := fun_mk (st := s_written) l13 c13 k13
    g_written := PySem.W.mg_of X G a13
    a_read_whole := _
    d_read_whole := _
    F_read_whole := fun_mk (st := s_read_whole) l14 c14 k14
    g_read_whole := PySem.W.mg_of X G a14
    a_law_one_of := _
    d_law_one_of := _
    F_law_one_of := fun_mk (st := s_law_one_of) l15 c15 k15
    g_law_one_of := PySem.W.mg_of X G a15
    a_law_bracketed_of := _
    d_law_bracketed_of := _
    F_law_bracketed_of := fun_mk (st := s_law_bracketed_of) l16 c16 k16
    g_law_bracketed_of := PySem.W.mg_of X G a16
    a_check_rule := _
    d_check_rule := _
    F_check_rule := fun_mk (st := s_check_rule) l17 c17 k17
    g_check_rule := PySem.W.mg_of X G a17
    a_bracketed := _
    d_bracketed := _
    F_bracketed := fun_mk (st := s_bracketed) l18 c18 k18
    g_bracketed := PySem.W.mg_of X G a18
    a_read_bracketed := _
    d_read_bracketed := _
    F_read_bracketed := fun_mk (st := s_read_bracketed) l19 c19 k19
    g_read_bracketed := PySem.W.mg_of X G a19
    a_law_term := _
    d_law_term := _
    F_law_term := fun_mk (st := s_law_term) l20 c20 k20
    g_law_term := PySem.W.mg_of X G a20
    a_law_term_of := _
    d_law_term_of := _
    F_law_term_of := fun_mk (st := s_law_term_of) l21 c21 k21
    g_law_term_of := PySem.W.mg_of X G a21
    a_law_spoilt := _
    d_law_spoilt := _
    F_law_spoilt := fun_mk (st := s_law_spoilt) l22 c22 k22
    g_law_spoilt := PySem.W.mg_of X G a22
    a_term_text := _
    d_term_text := _
    F_term_text := fun_mk (st := s_term_text) l23 c23 k23
    g_term_text := PySem.W.mg_of X G a23
    a_read_term := _
    d_read_term := _
    F_read_term := fun_mk (st := s_read_term) l24 c24 k24
    g_read_term := PySem.W.mg_of X G a24
    a_law_rule := _
    d_law_rule := _
    F_law_rule := fun_mk (st := s_law_rule) l25 c25 k25
    g_law_rule := PySem.W.mg_of X G a25
    a_law_due := _
    d_law_due := _
    F_law_due := fun_mk (st := s_law_due) l26 c26 k26
    g_law_due := PySem.W.mg_of X G a26
    a_rule_text := _
    d_rule_text := _
    F_rule_text := fun_mk (st := s_rule_text) l27 c27 k27
    g_rule_text := PySem.W.mg_of X G a27
    a_read_rule := _
    d_read_rule := _
    F_read_rule := fun_mk (st := s_read_rule) l28 c28 k28
    g_read_rule := PySem.W.mg_of X G a28
    a_law_goes := _
    d_law_goes := _
    F_law_goes := fun_mk (st := s_law_goes) l29 c29 k29
    g_law_goes := PySem.W.mg_of X G a29
    a_law := _
    d_law := _
    F_law := fun_mk (st := s_law) l30 c30 k30
    g_law := PySem.W.mg_of X G a30
    t_MOST_COUNT := t_MOST_COUNT
    c_MOST_COUNT := PySem.W.mg_of X G m_MOST_COUNT
    t_MOST_TERMS := t_MOST_TERMS
    c_MOST_TERMS := PySem.W.mg_of X G m_MOST_TERMS
    t__BETWEEN_TERMS := t__BETWEEN_TERMS
    c__BETWEEN_TERMS := PySem.W.mg_of X G m__BETWEEN_TERMS
    t__BITS := t__BITS
    c__BITS := PySem.W.mg_of X G m__BITS
    t__DIGITS := t__DIGITS
    c__DIGITS := PySem.W.mg_of X G m__DIGITS
    a_KINDS := u_KINDS
    g_KINDS := PySem.W.mg_of X G zt_KINDS
    q_KINDS := frt3 yt_KINDS rfl rfl rfl
    a_KINDS_0 := u_KINDS_0
    q_KINDS_0 := frt3 yt_KINDS_0 ⟨_, rfl⟩ ⟨_, rfl⟩ ⟨_, rfl⟩
    a_KINDS_1 := u_KINDS_1
    q_KINDS_1 := frt3 yt_KINDS_1 ⟨_, rfl⟩ ⟨_, rfl⟩ ⟨_, rfl⟩
    a_KINDS_2 := u_KINDS_2
    q_KINDS_2 := frt3 yt_KINDS_2 ⟨_, rfl⟩ ⟨_, rfl⟩ ⟨_, rfl⟩
    z_abs := PySem.W.mg_none_of X G z_abs
    z_any := PySem.W.mg_none_of X G z_any
    z_bool := PySem.W.mg_none_of X G z_bool
    z_enumerate := PySem.W.mg_none_of X G z_enumerate
    z_int := PySem.W.mg_none_of X G z_int
    z_isinstance := PySem.W.mg_none_of X G z_isinstance
    z_len := PySem.W.mg_none_of X G z_len
    z_list := PySem.W.mg_none_of X G z_list
    z_max := PySem.W.mg_none_of X G z_max
    z_min := PySem.W.mg_none_of X G z_min
    z_range := PySem.W.mg_none_of X G z_range
    z_repr := PySem.W.mg_none_of X G z_repr
    z_str := PySem.W.mg_none_of X G z_str
    z_tuple := PySem.W.mg_none_of X G z_tuple
    a_NoText := a_NoText
    e_NoText := err_mk X G ea_NoText ek_NoText et_NoText es_NoText ev_NoText e1_NoText e2_NoText e3_NoText e4_NoText e5_NoText e6 e7 e8_NoText
    fi_NoText := _
    fd_NoText := _
    s_NoText := sup_mk X G lk_NoText rv_NoText sa_NoText e3_NoText et_NoText ek_NoText iC_NoText tI_NoText nf_NoText up_NoText ev_NoText sC_NoText no gS lI_NoText cI_NoText lC_NoText lD_NoText hv_NoText hf_NoText (by decide +kernel) ⟨_, rfl, rfl⟩ ⟨_, _, _, _, _, _, _, _, _, _, _, _, rfl, fun _ => ⟨_, rfl⟩, fun _ => rfl⟩ ss_NoText
    sb_NoText := fun s us hK hl => match us, hl with | [_, _], _ => .of_eq rfl }
  exact ⟨T.d_law, fun s v => .of_eq rfl, fun base _ _ => ok_law T⟩
end My
open PySem PySem.W PyProof.Rows
set_option maxHeartbeats 0 in
theorem PySem.Challenge.cw_backafter_k56_whole_rule_texts_spoilt_ag_holds : PySem.Challenge.rw_backafter_k56_whole_rule_texts_spoilt_ag.Holds := by
  w_on; o_law; k_head; (case hw => w_witness2)
  k_fill
  refine Bk.walkG (l := PySem.Challenge.rw_backafter_k56_whole_rule_texts_spoilt_ag) (n := 63) (k := 8) (x := "script") (CX := fun _ => L2.CX0) (sp := fun w => My.sp_law _) rfl (by decide) rfl ⟨⟨rfl, by decide, by decide⟩, rfl⟩ (fun w h Y => PySem.W.kIn_of Y) ?F (fun _ _ a ns hl _ hS => ⟨a, ns, rfl, hS, hl, fun _ => rfl⟩) (fun _ _ _ _ _ h => h)
  case F =>
    intro w mg fa h KX G hmg
    refine' My.all_mk KX G hmg ?a0 ?l0 ?c0 ?k0 ?a1 ?l1 ?c1 ?k1 ?a2 ?l2 ?c2 ?k2 ?a3 ?l3 ?c3 ?k3 ?a4 ?l4 ?c4 ?k4 ?a5 ?l5 ?c5 ?k5 ?a6 ?l6 ?c6 ?k6 ?a7 ?l7 ?c7 ?k7 ?a8 ?l8 ?c8 ?k8 ?a9 ?l9 ?c9 ?k9 ?a10 ?l10 ?c10 ?k10 ?a11 ?l11 ?c11 ?k11 ?a12 ?l12 ?c12 ?k12 ?a13 ?l13 ?c13 ?k13 ?a14 ?l14 ?c14 ?k14 ?a15 ?l15 ?c15 ?k15 ?a16 ?l16 ?c16 ?k16 ?a17 ?l17 ?c17 ?k17 ?a18 ?l18 ?c18 ?k18 ?a19 ?l19 ?c19 ?k19 ?a20 ?l20 ?c20 ?k20 ?a21 ?l21 ?c21 ?k21 ?a22 ?l22 ?c22 ?k22 ?a23 ?l23 ?c23 ?k23 ?a24 ?l24 ?c24 ?k24 ?a25 ?l25 ?c25 ?k25 ?a26 ?l26 ?c26 ?k26 ?a27 ?l27 ?c27 ?k27 ?a28 ?l28 ?c28 ?k28 ?a29 ?l29 ?c29 ?k29 ?a30 ?l30 ?c30 ?k30 ?m_MOST_COUNT ?m_MOST_TERMS ?m__BETWEEN_TERMS ?m__BITS ?m__DIGITS ?zt_KINDS ?yt_KINDS ?yt_KINDS_0 ?yt_KINDS_1 ?yt_KINDS_2 ?z_abs ?z_any ?z_bool ?z_enumerate ?z_int ?z_isinstance ?z_len ?z_list ?z_max ?z_min ?z_range ?z_repr ?z_str ?z_tuple ?ea_NoText ?ek_NoText ?et_NoText ?es_NoText ?ev_NoText ?e1_NoText ?e2_NoText ?e3_NoText ?e4_NoText ?e5_NoText ?e8_NoText ?e6 ?e7 ?no ?gS ?lk_NoText ?rv_NoText ?sa_NoText ?iC_NoText ?tI_NoText ?nf_NoText ?up_NoText ?sC_NoText ?lI_NoText ?cI_NoText ?lC_NoText ?lD_NoText ?hv_NoText ?hf_NoText
    (case a0 => k_is); (case l0 => k_is); (case c0 => k_is); (case k0 => k_is); (case a1 => k_is); (case l1 => k_is); (case c1 => k_is); (case k1 => k_is); (case a2 => k_is); (case l2 => k_is); (case c2 => k_is); (case k2 => k_is); (case a3 => k_is); (case l3 => k_is); (case c3 => k_is); (case k3 => k_is); (case a4 => k_is); (case l4 => k_is); (case c4 => k_is); (case k4 => k_is); (case a5 => k_is); (case l5 => k_is); (case c5 => k_is); (case k5 => k_is); (case a6 => k_is); (case l6 => k_is); (case c6 => k_is); (case k6 => k_is); (case a7 => k_is); (case l7 => k_is); (case c7 => k_is); (case k7 => k_is); (case a8 => k_is); (case l8 => k_is); (case c8 => k_is); (case k8 => k_is); (case a9 => k_is); (case l9 => k_is); (case c9 => k_is); (case k9 => k_is); (case a10 => k_is); (case l10 => k_is); (case c10 => k_is); (case k10 => k_is); (case a11 => k_is); (case l11 => k_is); (case c11 => k_is); (case k11 => k_is); (case a12 => k_is); (case l12 => k_is); (case c12 => k_is); (case k12 => k_is); (case a13 => k_is); (case l13 => k_is); (case c13 => k_is); (case k13 => k_is); (case a14 => k_is); (case l14 => k_is); (case c14 => k_is); (case k14 => k_is); (case a15 => k_is); (case l15 => k_is); (case c15 => k_is); (case k15 => k_is); (case a16 => k_is); (case l16 => k_is); (case c16 => k_is); (case k16 => k_is); (case a17 => k_is); (case l17 => k_is); (case c17 => k_is); (case k17 => k_is); (case a18 => k_is); (case l18 => k_is); (case c18 => k_is); (case k18 => k_is); (case a19 => k_is); (case l19 => k_is); (case c19 => k_is); (case k19 => k_is); (case a20 => k_is); (case l20 => k_is); (case c20 => k_is); (case k20 => k_is); (case a21 => k_is); (case l21 => k_is); (case c21 => k_is); (case k21 => k_is); (case a22 => k_is); (case l22 => k_is); (case c22 => k_is); (case k22 => k_is); (case a23 => k_is); (case l23 => k_is); (case c23 => k_is); (case k23 => k_is); (case a24 => k_is); (case l24 => k_is); (case c24 => k_is); (case k24 => k_is); (case a25 => k_is); (case l25 => k_is); (case c25 => k_is); (case k25 => k_is); (case a26 => k_is); (case l26 => k_is); (case c26 => k_is); (case k26 => k_is); (case a27 => k_is); (case l27 => k_is); (case c27 => k_is); (case k27 => k_is); (case a28 => k_is); (case l28 => k_is); (case c28 => k_is); (case k28 => k_is); (case a29 => k_is); (case l29 => k_is); (case c29 => k_is); (case k29 => k_is); (case a30 => k_is); (case l30 => k_is); (case c30 => k_is); (case k30 => k_is); (case m_MOST_COUNT => k_is); (case m_MOST_TERMS => k_is); (case m__BETWEEN_TERMS => k_is); (case m__BITS => k_is); (case m__DIGITS => k_is); (case zt_KINDS => k_is); (case yt_KINDS => k_is); (case yt_KINDS_0 => k_is); (case yt_KINDS_1 => k_is); (case yt_KINDS_2 => k_is); (case z_abs => k_is); (case z_any => k_is); (case z_bool => k_is); (case z_enumerate => k_is); (case z_int => k_is); (case z_isinstance => k_is); (case z_len => k_is); (case z_list => k_is); (case z_max => k_is); (case z_min => k_is); (case z_range => k_is); (case z_repr => k_is); (case z_str => k_is); (case z_tuple => k_is); (case ea_NoText => k_is); (case ek_NoText => k_is); (case et_NoText => k_is); (case es_NoText => k_is); (case ev_NoText => k_is); (case e1_NoText => k_is); (case e2_NoText => k_is); (case e3_NoText => k_is); (case e4_NoText => k_is); (case e5_NoText => k_is); (case e8_NoText => k_is); (case e6 => k_is); (case e7 => k_is); (case no => k_is); (case gS => k_is); (case lk_NoText => k_is); (case rv_NoText => decide +kernel); (case sa_NoText => k_is); (case iC_NoText => k_is); (case tI_NoText => k_is); (case nf_NoText => k_is); (case up_NoText => ks_is); (case sC_NoText => k_is); (case lI_NoText => k_is); (case cI_NoText => k_is); (case lC_NoText => k_is); (case lD_NoText => k_is); (case hv_NoText => rfl); (case hf_NoText => decide +kernel)
