import PyProof.Rows.All
import Wide.All
import OpenK.AllK
import Wide.FinOn
import HandS.Base
import HandS.Call
import HandS.List
import HandS.Comp
import HandS.Ends
import HandS.Iter
import HandS.Words
import HandS.WordsList
import HandS.Wide
import HandS.Conv
import PyProof.ReprRoads
import KE.GoesEnumKw
import HandS.IsInst
import HandS.Zip
import HandS.SortInts
import HandS.RaiseMore
import KE.DataEq
import HandS.Evl
import HandS.Style
import PyProof.Rows.SeqMore
import HandS.Gcd
import HandS.Exc
import HandS.TryOnly
import HandS.ExcOwn
import HandS.ExcInit
import HandS.ExcIs
import HandS.ExcField
import HandS.WordsExc
import KE.KExcSuper
import KE.KExcIs
import HandS.CallSlots
import HandS.Rev
import KE.DataAny
import HandS.TupMul
import HandS.Property
import OpenK.KMeth
import OpenK.KOps
import HandS.Text
import HandS.Codes
import HandS.StrMore
import HandS.WideBits
import HandS.FStr
import HandS.More
import HandS.TryMany
import HandS.Walk
import HandS.Deep
import KE.KSortKeySt
import HandS.Dict
import HandS.DictComp
import KE.KItemsList
import KE.DataMinMax
import HandS.SortKw
import HandS.TupAny
import HandS.Small
import KE.KDictZip
import PyProof.StrReplace2
import PySem.Challenge.RW_backafter_k76_whole_live_rows_beside_fun
set_option Elab.async false
set_option linter.all false
set_option maxRecDepth 100000
set_option maxHeartbeats 4000000
namespace Bk
open PySem PySem.Spec PyProof.Rows L2

/-! ### room, and nothing of repr on the stack -/
structure Rm (k : Nat) (A : Around) : Prop where
  rm : Room k A
  gd : A.guards = some []
theorem Rm.mono {j k : Nat} {A : Around} (r : Rm k A) (h : j ≤ k) : Rm j A := ⟨r.rm.mono h, r.gd⟩
theorem Rm.deep {k : Nat} {A : Around} (r : Rm (k + 1) A) (env : Env) : Rm k (A.deeper env) := ⟨r.rm.deeper env, r.gd⟩

/-- a def's promise where the stack holds no repr -/
structure FnG (P : Program) (w : World) (K : PySem.W.Frag) (mg : Str → Option Value) (base : Heap) (CX : CXT) (k : Nat) (f : Addr) (fd : FuncData) (ps : List Str) (sp : Sp) : Prop where
  len : ∀ vs H Q E, sp vs H Q E → vs.length = ps.length
  run : ∀ (A : Around) (out : List Env) (s : Shared) (H : Hp) (args : Args) (us : List Value) (vs : List V) (Q : VK) (E : XK), Rm k A →
    Env0 P w K mg base A out s H → BindsTo s fd args (ps.zip us) → Vals vs us → sp vs H Q E → codeAny (model P w) A (.call (.ref f) args) (CR CX out P w H s Q E) s

section
variable {P : Program} {w : World} {K : PySem.W.Frag} {mg : Str → Option Value} {base : Heap} {CX : CXT} {k : Nat} {f : Addr} {fd : FuncData} {ps : List Str} {sp : Sp}
theorem FnG.mono {j : Nat} (F : FnG P w K mg base CX j f fd ps sp) (h : j ≤ k) : FnG P w K mg base CX k f fd ps sp :=
  ⟨F.len, fun A o s H a us vs Q E r => F.run A o s H a us vs Q E (r.mono h)⟩
theorem FnG.imp {sp' : Sp} (F : FnG P w K mg base CX k f fd ps sp) (h : ∀ vs H Q E, sp' vs H Q E → sp vs H Q E) : FnG P w K mg base CX k f fd ps sp' :=
  ⟨fun vs H Q E q => F.len vs H Q E (h _ _ _ _ q), fun A o s H a us vs Q E r e b v q => F.run A o s H a us vs Q E r e b v (h _ _ _ _ q)⟩

/-- the body, for any wish about exceptions -/
theorem bodyG {x qual : Str} {st : Stmt} {N : List Str} (F : Fun K x qual st f fd) (S : FnScope N ps (defScope st)) (len : ∀ vs H Q E, sp vs H Q E → vs.length = ps.length)
    (hb : ∀ (cdv : Value) (A : Around) (out : List Env) (s : Shared) (H : Hp) (vs : List V) (Q : VK) (E : XK),
      Rm k (A.deeper (envOfC qual (defScope st) s.heap.objs.size f cdv)) → sp vs H Q E →
      ∃ t, PSs (cxOf CX P w K mg base N qual (defScope st) f cdv A out s H E) (defBody st) t ∧ t { nx := fun _ H' => Q .non H', rt := Q } (start N vs) H) :
    FnG P w K mg base CX (k + 1) f fd ps sp := by
  obtain ⟨oc, od, kV, doc, pm, an, cdv, ct, osl, rfl, lk, hcd⟩ := F.ex
  refine ⟨len, ?_⟩
  intro A out s H args us vs Q E room e0 hbd rv hsp
  have hlen := len _ _ _ _ hsp
  have inK : K.In s.heap := e0.mod.kin.keeps fun b o e => (e0.bs b o e).1
  have noL : s.heap.NoLimit := e0.mod.nolimit.keeps fun b o e => (e0.bs b o e).1
  have kinds : ∀ y ∈ ps.zip us, (defScope st).names.lookup y.1 = some .local ∨
      ((defScope st).names.lookup y.1 = some .cell ∧ ((cellsFrom (s.heap.objs.size + 1) (defScope st).names []).lookup y.1).isSome = true) := by
    intro ⟨n, v⟩ hy
    rcases S.par n (List.of_mem_zip hy).1 with q | q
    · left
      exact q
    · right
      exact ⟨q, PySem.W.cellsFrom_some _ _ _ (.inl q)⟩
  refine codeAny_call_function room.rm.depth (inK _ _ lk) rfl S.co S.gen rfl (PySem.W.codeRec_of inK hcd) (hbd _ _ _ _ ?_)
  refine wpAny_newFunctionEnv_cells S.kind kinds ?_
  intro env henv s1 x
  subst henv
  refine ⟨noL.keeps x.toInCall.keep, codeAny_func ?_⟩
  obtain ⟨t, ht, hq⟩ := hb cdv A out s H vs Q E (room.deep _) hsp
  have J0 := inv_start (CX := CX) (E := E) (f := f) (cd := cdv) S room.rm.hd e0 hlen rv x
  refine wpAny_mono (ht.run [] s1 (start N vs) H _ J0 hq) ?_ (fun _ _ hs => hs)
  intro fl s' hs
  cases fl with
  | next =>
    obtain ⟨σ', H', J, q⟩ := hs
    exact ⟨V.non, H', J.os, J.bare, J.base, J.hok, rfl, q⟩
  | ret u =>
    obtain ⟨v, σ', H', J, rr, q⟩ := hs
    exact ⟨v, H', J.os, J.bare, J.base, J.hok, rr, q⟩
  | cont =>
    obtain ⟨_, _, _, q⟩ := hs
    exact q.elim
  | brk =>
    obtain ⟨_, _, _, q⟩ := hs
    exact q.elim
/-- a def that lets no exception out -/
theorem okG {x qual : Str} {st : Stmt} {N : List Str} (F : Fun K x qual st f fd) (S : FnScope N ps (defScope st)) (len : ∀ vs H Q E, sp vs H Q E → vs.length = ps.length)
    (hb : ∀ (cdv : Value) (A : Around) (out : List Env) (s : Shared) (H : Hp) (vs : List V) (Q : VK) (E : XK),
      Rm k (A.deeper (envOfC qual (defScope st) s.heap.objs.size f cdv)) → sp vs H Q E →
      ∃ t, PSs (cxOf CX0 P w K mg base N qual (defScope st) f cdv A out s H E).nox (defBody st) t ∧ t { nx := fun _ H' => Q .non H', rt := Q } (start N vs) H) :
    FnG P w K mg base CX0 (k + 1) f fd ps sp :=
  bodyG F S len fun cdv A out s H vs Q E r q =>
    let ⟨t, h, z⟩ := hb cdv A out s H vs Q E r q
    ⟨t, h.nox, z⟩
end

/-! ### calls of such defs -/
section
variable {X : Cx} {CX : CXT} {k : Nat} {f : Addr} {fd : FuncData} {ps ks : List Str} {sp : Sp} {dvs : List V} {ds : List Value} {E : XK} {x : Str} {p pos : Pos} {e : Expr} {es : List Expr} {t tk : TA} {kws : List Keyword}
theorem endG {pins : List (Addr × Obj)} {σ : L2.St} {H : Hp} {s : Shared} {Q : VK} (I : Inv X pins σ H s) (hx : Passes CX X E) (r : Result) (s' : Shared) (h : CR CX X.stack X.prog X.w H s Q E r s') :
    (match r with | .ok (.ret u) => EP X pins σ Q u s' | .ok _ => False | .error e => X.xe e s') := by
  cases r with
  | error e => exact hx pins σ H s e s' I h
  | ok fl =>
    cases fl with
    | ret u => exact I.after h
    | _ => exact h
theorem runG {pins : List (Addr × Obj)} {σ : L2.St} {H : Hp} {s : Shared} {Q : VK} {us : List Value} {vs : List V} (F : FnG X.prog X.w X.K X.mg X.base CX k f fd ps sp) (hr : Rm k X.A) (hb : Binds X.K fd ps ds) (hd : Vals dvs ds)
    (hx : Passes CX X E) (I : Inv X pins σ H s) (r : Vals vs us) (h : sp (vs ++ dvs) H Q E) : wpAny (model X.prog X.w) X.A (call (.ref f) us) (EP X pins σ Q) X.xe s := by
  have rv := r.append hd
  have hl : (us ++ ds).length = ps.length := rv.length.symm.trans (F.len _ _ _ _ h)
  refine wpAny_call (codeAny_mono (F.run X.A X.stack s H ⟨us, []⟩ (us ++ ds) (vs ++ dvs) Q E hr I.env0 (hb s us I.kIn hl) rv h) fun r s' hq => ?_)
  have z := endG I hx r s' hq
  cases r with
  | error e => exact z
  | ok fl =>
    cases fl with
    | ret u => exact z
    | _ => exact z.elim
theorem callG (F : FnG X.prog X.w X.K X.mg X.base CX k f fd ps sp) (hr : Rm k X.A) (hg : Gl X x) (hm : X.mg x = some (.ref f)) (hk : PySem.W.keepIn X.K (.ref f) = true) (hb : Binds X.K fd ps ds) (hd : Vals dvs ds) (hx : Passes CX X E)
    (ha : PA X (e :: es) t) (hdb : (x == ("__debug__" : Str)) = false := by decide) (he : starEach (e :: es) X.env = (false, eval e X.env) :: starEach es X.env := by rfl)
    (hpl : (backTo pos (starEach es X.env)).any (·.1) = false := by rfl) : PE X (.Call (.Name x p) (e :: es) [] pos) (tCall sp dvs E t) := by
  refine ⟨fun pins s σ H Q I h => wpAny_Call_Name_kw (ld_glob I hg hm ?_ hdb)⟩
  refine PySem.W.callWith_K (h₀ := X.base) I.ok.mod.kin hk (thn (ha.run pos pins s σ H _ I h) ?_) he hpl
  intro us s1 ⟨vs, H1, I1, r, q⟩
  exact ⟨I1.kIn, runG F hr hb hd hx I1 r q⟩
theorem runGK {pins : List (Addr × Obj)} {σ : L2.St} {H : Hp} {s : Shared} {Q : VK} {us ws : List Value} {vs zs : List V} {g : List Value → List Value → List Value} {gV : List V → List V → List V}
    (F : FnG X.prog X.w X.K X.mg X.base CX k f fd ps sp) (hr : Rm k X.A) (hb : KBinds X.K fd ps ks g gV) (hx : Passes CX X E)
    (I : Inv X pins σ H s) (r : Vals vs us) (rz : Vals zs ws) (h : sp (gV vs zs) H Q E) : wpAny (model X.prog X.w) X.A (call (.ref f) us (ks.zip ws)) (EP X pins σ Q) X.xe s := by
  have rv := hb.rel r rz
  have hl : (g us ws).length = ps.length := rv.length.symm.trans (F.len _ _ _ _ h)
  refine wpAny_call (codeAny_mono (F.run X.A X.stack s H ⟨us, ks.zip ws⟩ (g us ws) (gV vs zs) Q E hr I.env0 (hb.to s us ws I.kIn hl) rv h) fun r s' hq => ?_)
  have z := endG I hx r s' hq
  cases r with
  | error e => exact z
  | ok fl =>
    cases fl with
    | ret u => exact z
    | _ => exact z.elim
end

/-! ### the end of a law -/
/-- the law's def, at the heap behind the top -/
theorem lawG {P : Program} {w : World} {K : PySem.W.Frag} {mg mb : Str → Option Value} {CX : CXT} {k : Nat} {fa a : Addr} {fd : FuncData} {x : Str} {sp : Sp} {s₁ : Shared} {vs : List Value} {ns : List Int}
    (inK : K.In s₁.heap) (hns : s₁.heap.Ns mainGlobals mg) (hb : s₁.heap.Ns builtinsNs mb) (hbb : ∀ x : Str, x ≠ "__name__" → mb x = bootBuiltins x) (hlim : s₁.heap.NoLimit) (hg : s₁.gens = #[])
    (ha : s₁.heap.get? a = some { cls := .type "list", data := .seq vs.toArray }) (hi : IntsAre vs ns) (hl : ns.length ≤ sizeLine) (hr : Rm k callerA)
    (F : ∀ base : Heap, K.In base → base.Ns mainGlobals mg → FnG P w K mg base CX k fa fd [x] sp) (hbind : ∀ (s : Shared) (u : Value), BindsTo s fd ⟨[u], []⟩ [(x, u)])
    (hsp : ∀ H : Hp, Only H → SqL K H a (ns.map V.int) → sp [.ref a] H (fun v _ => v = .bl true) fun _ _ _ => False)
    (hCX : ∀ H e s', CX [] H s₁ (fun _ _ _ => False) e s' → False) :
    codeAny (model P w) callerA (.call (.ref fa) ⟨[.ref a], []⟩) (fun r s' => r = .ok (.ret (.bool true)) ∧ OldK s₁.heap s'.heap ∧ s'.os = s₁.os ∧ AllBare s'.gens) s₁ := by
  have rv := vals_ints hi
  have go : ∀ H : Hp, Only H → SqL K H a (ns.map V.int) → HOk P w H s₁.heap → (∀ b, H b ≠ none → b = a) → (H a ≠ none → K.lookup a = none) →
      codeAny (model P w) callerA (.call (.ref fa) ⟨[.ref a], []⟩) (fun r s' => r = .ok (.ret (.bool true)) ∧ OldK s₁.heap s'.heap ∧ s'.os = s₁.os ∧ AllBare s'.gens) s₁ := by
    intro H hO hS hok only hK
    have nsd : ∀ {b : Addr} {o : Obj} {es : Array DictEntry} {ep : Nat}, s₁.heap.get? b = some o → o.data = .dict es ep → H b = none := by
      intro b o es ep e d
      cases q : H b with
      | none => rfl
      | some u =>
        obtain rfl : b = a := only b (by simp [q])
        rw [ha] at e
        cases e
        exact nomatch (show Data.seq vs.toArray _ = Data.dict es ep from d)
    have nsH : ∀ {b : Addr} {m : Str → Option Value}, s₁.heap.Ns b m → (hidT s₁.heap H).Ns b m := by
      intro b m ⟨o, es, ep, e, d, r⟩
      exact ⟨o, es, ep, hidT_get e (nsd e d), d, r⟩
    have inH : K.In (hidT s₁.heap H) := by
      intro b o e
      refine hidT_get (inK b o e) ?_
      cases q : H b with
      | none => rfl
      | some u =>
        obtain rfl : b = a := only b (by simp [q])
        rw [hK (by simp [q])] at e
        cases e
    have md : Mod K mg (hidT s₁.heap H) := ⟨inH, nsH hns, ⟨mb, nsH hb, hbb⟩, let ⟨mc, h1, h2⟩ := hlim; ⟨mc, nsH h1, h2⟩⟩
    have e0 : Env0 P w K mg (hidT s₁.heap H) callerA [] s₁ H :=
      ⟨rfl, md, fun b o e => of_hidT e, Nat.le_of_eq (hidT_size _ _), trivial, fun b hb => (List.not_mem_nil hb).elim, hok, .of_eq hg⟩
    refine codeAny_mono ((F _ inH (nsH hns)).run callerA [] s₁ H ⟨[.ref a], []⟩ [.ref a] [.ref a] _ _ hr e0 (hbind s₁ (.ref a)) (.cons rfl .nil) (hsp H hO hS)) ?_
    intro r s' h
    cases r with
    | error e => exact (hCX H e s' h).elim
    | ok fl =>
      cases fl with
      | ret u =>
        obtain ⟨v, H', os, bare, un, hok', r', q⟩ := h
        obtain rfl : v = .bl true := q
        obtain rfl : u = Value.bool true := r'
        refine ⟨rfl, OldK.of_keep ?_, os, bare⟩
        intro b o e
        cases q : H b with
        | none => exact un.keep b o e q (fun z => (List.not_mem_nil z).elim) (fun z => (List.not_mem_nil z).elim)
        | some u =>
          rcases hO b with z | ⟨ob, xs, z⟩
          · rw [q] at z
            cases z
          · obtain ⟨e1, _⟩ := hok b _ z
            obtain ⟨e2, _⟩ := hok' b _ (un.frzs b ob _ z)
            rw [e] at e1
            cases e1
            exact e2
      | _ => exact h.elim
  cases hk : K.lookup a with
  | some o =>
    have e := inK a o hk
    rw [ha] at e
    cases e
    refine go (fun _ => none) (fun _ => .inl rfl) (.inr ⟨_, vs.toArray, _, hk, rfl, rfl, rfl, ?_, by simpa using rv⟩) (fun b u z => nomatch z) (fun b z => (z rfl).elim) fun z => (z rfl).elim
    rw [List.size_toArray, hi.length]
    exact hl
  | none =>
    refine go (fun b => if b = a then some (.frz { cls := .type "list", data := .seq vs.toArray } (.lst (ns.map V.int))) else none) ?_ (.inl (.inr ⟨{ cls := .type "list", data := .seq vs.toArray }, if_pos rfl⟩)) ?_ ?_ fun _ => hk
    · intro b
      by_cases c : b = a
      · exact .inr ⟨_, _, if_pos c⟩
      · exact .inl (if_neg c)
    · intro b u z
      dsimp only at z
      by_cases c : b = a
      · rw [if_pos c] at z
        cases z
        subst c
        refine ⟨ha, ?_, vs, _, rv, ha⟩
        rw [List.length_map]
        exact hl
      · rw [if_neg c] at z
        cases z
    · intro b z
      by_cases c : b = a
      · exact c
      · exact (z (if_neg c)).elim

theorem walkG {l : PySem.W.OpenLaw} {n k : Nat} {q : Program} {loose : List Str} {XP : (Str → Option Value) → Heap → Prop} {YP : World → Heap → Prop} {d : DefRec} {K : Params → PySem.W.Frag} {CX : World → CXT} {sp : World → Sp} {x : Str}
    (hn : l.most = some n) (hn2 : n ≤ sizeLine) (hdf : d.params.defaults = []) (hr : Rm k callerA)
    (hY : ∀ (w : World) (h : Heap), YP w h → (K w.params).In h)
    (F : ∀ (w : World) (mg : Str → Option Value) (fa : Addr) (h : Heap), (K w.params).In h → h.Ns mainGlobals mg → mg d.name = some (.ref fa) →
      ∃ fd : FuncData, (∀ (s : Shared) (u : Value), BindsTo s fd ⟨[u], []⟩ [(x, u)]) ∧
        ∀ base : Heap, (K w.params).In base → base.Ns mainGlobals mg → FnG l.prog w (K w.params) mg base (CX w) k fa fd [x] (sp w))
    (hsp : ∀ (w : World) (H : Hp) (a : Addr) (ns : List Int), ns.length ≤ n → Only H → SqL (K w.params) H a (ns.map V.int) → sp w [.ref a] H (fun v _ => v = .bl true) fun _ _ _ => False)
    (hCX : ∀ (w : World) (H : Hp) (s : Shared) (e : Value) (s' : Shared), CX w [] H s (fun _ _ _ => False) e s' → False) :
    PySem.W.WalkO q loose XP YP l.row.toRowW d [] (fun f vs => PySem.call f vs) := by
  refine Att.attach_call hn hdf ?_
  intro w s₀ s₁ mg mb fa o pm cd doc a vs ns G Y ho hd hcd hmg hobj hints hlen hg
  have inK := hY w _ Y
  obtain ⟨fd, hb, hF⟩ := F w mg fa _ inK G.T.g hmg
  exact lawG inK G.T.g G.T.b G.T.builtins G.T.nolimit hg hobj hints (Nat.le_trans hlen hn2) hr hF hb (fun H hO hS => hsp w H a ns hlen hO hS) fun H e s' => hCX w H s₁ e s'

/-! ### repr of data -/
def rRepr (K : PySem.W.Frag) : List V → Hp → VK → Prop := fun xs H Q => ∃ (a : Addr) (d : PyData), xs = [.ref a] ∧ Dp K H (.ref a) d ∧ d.showable = true ∧ d.hasDict = false ∧ d.depth ≤ 60 ∧ d.shown.length ≤ sizeLine ∧ Q (.str d.shown) H
theorem call_repr {X : Cx} (hg : X.A.guards = some []) (hu : X.A.units + 64 < cLine) : CallR X (.builtin "repr") (rRepr X.K) := by
  intro pins s σ H xs us Q I r h
  obtain ⟨a, d, rfl, hd, hs, hn, hp, hz, q⟩ := h
  obtain ⟨u, rfl, ru⟩ := vals1 r
  cases (show u = Value.ref a from ru)
  obtain ⟨as, rd⟩ := Dp.reads I d (.ref a) (.ref a) hd rfl
  refine repr_of_reads' rd hs (fun z => by rw [hn] at z; cases z) hg (by omega) (fun _ _ e => e) (fun h' u tk hk => ?_) hz
  exact ⟨.str d.shown, H, I.kept hk, ⟨u, rfl⟩, q⟩
end Bk
namespace Bk
open PySem PySem.Spec PyProof.Rows L2

/-! ### enumerate(list, start=k) -/
theorem callWith_clsKw {M : Model} {A : Around} {E : Value → Shared → Prop} {s : Shared} {env : Env} {pos : Pos} {T : String} {e : Expr} {rest : List Expr} {kws : List Keyword} {Q : Value → Shared → Prop}
    (h : wpAny M A (spliced (backTo pos (starEach (e :: rest) env))) (fun vs s₁ => wpAny M A (evalAll ((backToKw pos (keywordEach kws env)).map (·.2)))
      (fun ks s₂ => wpAny M A (call (.type T) vs (((backToKw pos (keywordEach kws env)).filterMap (·.1)).zip ks)) Q E s₂) E s₁) E s)
    (hall : (backToKw pos (keywordEach kws env)).all (·.1.isSome) = true)
    (hplain : (backTo pos (starEach (e :: rest) env)).any (·.1) = false) (hkw : (backToKw pos (keywordEach kws env)).any (·.1.isNone) = false)
    (he : backTo pos (starEach (e :: rest) env) = (false, eval e env) :: backTo pos (starEach rest env)) :
    wpAny M A (callWith pos (.type T) [] (backTo pos (starEach (e :: rest) env)) (backToKw pos (keywordEach kws env))) Q E s := by
  have h2 : wpAny M A (evalArgs (.type T) true (backTo pos (starEach (e :: rest) env)) (backToKw pos (keywordEach kws env))) (fun a s₁ => wpAny M A (call (.type T) ([] ++ a.pos) a.kw) Q E s₁) E s := by
    rw [he] at h ⊢
    exact PyProof.Rows.evalArgs_kwB hall h
  unfold callWith
  refine wpAny_bind (wpAny_holding (wpAny_mono h2 (fun a s₁ h₁ => wpAny_bind (wpAny_standAt ?_)) fun _ _ x => x))
  simp only [hplain, hkw, Bool.or_false]
  refine wpAny_bind (wpAny_pure ?_)
  exact wpAny_bind (wpAny_mono h₁ (fun r s₂ hr => wpAny_bind (wpAny_holding (wpAny_point (wpAny_pure hr)))) fun _ _ x => x)

/-- the list at a, each item in a new pair, counted from c -/
def Itn (K : PySem.W.Frag) (a : Addr) (c : Int) : It :=
  ⟨fun i H => ∃ (xs : List V) (x : V), SqL K H a xs ∧ xs[i]? = some x,
   fun i H v H' => ∃ T x, v = .ref T ∧ H T = none ∧ H' = upd H T (.tup [.int (c + (i : Nat)), x]) ∧ ∀ xs, SqL K H a xs → xs[i]? = some x,
   fun i H => ∃ xs : List V, SqL K H a xs ∧ i = xs.length⟩

theorem turn_enumC {P : Program} {w : World} {K : PySem.W.Frag} {elts : List Expr} {kk : Nat} {tpos : Pos} (a e it : Addr) (c : Int) :
    Turn P w K (.Tuple elts kk tpos) (Itn K a c) [e, it] e (fun i h => (∃ old, IsEnum h e it (c + ((i : Nat) : Int)) old) ∧ h.IsListIter it a i ∧ e ≠ it) where
  mem := List.mem_cons_self
  obj := by
    intro i h st b hb
    obtain ⟨⟨old, he⟩, ⟨o, ho, hc, hd⟩, _⟩ := st
    rcases (show b = e ∨ b = it by simpa using hb) with z | z
    · rw [z]
      exact ⟨_, he, fun v q => nomatch q⟩
    · rw [z]
      exact ⟨o, ho, fun v q => by rw [hd] at q; cases q⟩
  keep := by
    intro i h h' st k
    obtain ⟨⟨old, he⟩, hi, hne⟩ := st
    exact ⟨⟨old, k e (by simp) _ he⟩, hi.at fun o q => k it (by simp) o q, hne⟩
  item := by
    intro X hP hw hK hc i pins s σ H E I hf st hg
    subst hP hw hK
    obtain ⟨⟨old, he⟩, hit, hne⟩ := st
    obtain ⟨xs, x, hq, hx⟩ := hg
    obtain ⟨its, rv, p, hz⟩ := I.list hq
    obtain ⟨u, hu, ru⟩ := rv.get hx
    have hel : e < s.heap.objs.size := Heap.lt_size he
    have hil : it < s.heap.objs.size := by
      obtain ⟨_, q, _⟩ := hit
      exact Heap.lt_size q
    have hai : a ≠ it := by
      intro z
      obtain ⟨o1, q1, c1, d1⟩ := hit
      obtain ⟨o2, n2, q2, c2, _⟩ := p
      rw [z, q1] at q2
      cases q2
      rw [c1] at c2
      exact absurd c2 (by decide)
    have hae : e ≠ a := by
      intro z
      obtain ⟨o2, n2, q2, c2, _⟩ := p
      have q3 : s.heap.get? a = _ := z ▸ he
      rw [q3] at q2
      cases q2
      exact absurd (show Value.type "enumerate" = Value.type "list" from c2) (by decide)
    have hi : i < its.toArray.size := by
      have := (List.getElem?_eq_some_iff.mp hu).1
      simpa using this
    refine wpAny_pyNext_enum_itemC (Draws.list (by show X.A.handled = none; exact I.ok.hd hc) it a hai its.toArray) he ⟨hit, p.isList⟩ hi hne (by simp [hne, hae]) ?_
    intro y h' tk hy ho st' hT hsz hk
    have ey : y = u := by
      have : its.toArray[i]? = some u := by simpa using hu
      rw [this] at hy
      exact (Option.some.inj hy).symm
    subst ey
    refine ⟨_, rfl, wpAny_letOwnedTupleGo_enum (s := { s with heap := h', toks := tk + 1 }) ho ?_⟩
    intro h'' he' sb
    have hT2 : h''.get? s.heap.objs.size = some { cls := .type "tuple", data := .seq #[.int (c + (i : Nat)) tk, y] } := (sb.2 _ (Nat.ne_of_gt hel)).trans hT
    have new : ObjOk X.prog X.w (upd H s.heap.objs.size (.tup [.int (c + (i : Nat)), x])) h'' s.heap.objs.size (.tup [.int (c + (i : Nat)), x]) :=
      ⟨by show 2 ≤ sizeLine; decide, [.int (c + (i : Nat)) tk, y], .cons ⟨_, rfl⟩ (.cons ru .nil), ⟨_, hT2, rfl, _, rfl⟩⟩
    have I1 : Inv X pins σ (upd H s.heap.objs.size (.tup [.int (c + (i : Nat)), x])) { s with heap := h'', toks := tk + 1 } := by
      refine I.turnedNew (ch := [e, it]) ?_ hf (Nat.le_refl _) new
      intro b ob hb q
      exact (sb.2 b (fun z => hb (by simp [z]))).trans (hk b ob (fun z => hb (by simp [z])) (fun z => hb (by simp [z])) q)
    refine ⟨.ref s.heap.objs.size, _, I1, rfl, ⟨_, x, rfl, I.hok.fresh (Nat.le_refl _), rfl, fun ys hy => ?_⟩, ⟨⟨y, ?_⟩, st'.1.at fun o q => (sb.2 it (Ne.symm hne)).trans q, hne⟩, fun b hb => ?_⟩
    · rw [I.list_inj hy hq]
      exact hx
    · have e1 : c + ((i + 1 : Nat) : Int) = c + (i : Int) + 1 := by omega
      rw [e1]
      exact he'
    · have hb' : b < s.heap.objs.size := by
        rcases (show b = e ∨ b = it by simpa using hb) with z | z
        · exact z ▸ hel
        · exact z ▸ hil
      rw [upd_ne (Nat.ne_of_lt hb')]
      exact (hf b hb).1
  done := by
    intro X hP hw hK hc i pins s σ H E I hf st hg
    subst hP hw hK
    obtain ⟨⟨old, he⟩, hit, hne⟩ := st
    obtain ⟨xs, hq, hx⟩ := hg
    obtain ⟨its, rv, p, hz⟩ := I.list hq
    obtain ⟨f0, f1, f2, f3, f4, f5⟩ := hf it (by simp)
    have hl := rv.length
    have hai : a ≠ it := by
      intro z
      obtain ⟨o1, q1, c1, d1⟩ := hit
      obtain ⟨o2, n2, q2, c2, _⟩ := p
      rw [z, q1] at q2
      cases q2
      rw [c1] at c2
      exact absurd c2 (by decide)
    have hn : i = its.toArray.size := by
      simp
      omega
    have st : s.heap.IsListIter it a its.toArray.size ∧ s.heap.IsList a its.toArray := ⟨hn ▸ hit, p.isList⟩
    refine wpAny_pyNext_enum_endD (Draws.list (by show X.A.handled = none; exact I.ok.hd hc) it a hai its.toArray) he st ?_
    intro h' eb
    exact ⟨rfl, I.turned (t' := s.toks) (fun b o hb q => eb b o hb q) f0 f1 f3 f4 f5⟩
  self := fun A i s Q E st h => by
    obtain ⟨⟨_, he⟩, _⟩ := st
    exact wpAny_pyIter_enum he h

def iEnumC (K : PySem.W.Frag) (ta : TA) (c : Int) : TI := fun σ H R => ta σ H fun vs H1 => ∃ a xs, vs = [.ref a] ∧ SqL K H1 a xs ∧ R (Itn K a c) H1
theorem pi_enumC {X : Cx} {e : Expr} {ta : TA} {p pos tpos kpos cpos : Pos} {elts : List Expr} {kk j : Nat} {c : Int} (hg : Gl X "enumerate") (hm : X.mg "enumerate" = none) (ha : PA X [e] ta)
    (hs : starEach [e] X.env = [(false, eval e X.env)] := by rfl) (h0 : -(2 ^ 63) ≤ c := by decide) (h1 : c < 2 ^ 63 := by decide)
    (hall : (backToKw pos (keywordEach [⟨some "start", .Constant (.int c) j cpos, kpos⟩] X.env)).all (·.1.isSome) = true := by rfl)
    (hks : (backToKw pos (keywordEach [⟨some "start", .Constant (.int c) j cpos, kpos⟩] X.env)).filterMap (·.1) = [Str.ofString "start"] := by rfl)
    (hnone : (backToKw pos (keywordEach [⟨some "start", .Constant (.int c) j cpos, kpos⟩] X.env)).any (·.1.isNone) = false := by rfl)
    (hpl : (backTo pos (starEach [e] X.env)).any (·.1) = false := by rfl) :
    PI X (.Tuple elts kk tpos) (.Call (.Name "enumerate" p) [e] [⟨some "start", .Constant (.int c) j cpos, kpos⟩] pos) (iEnumC X.K ta c) := by
  refine ⟨fun pins s σ H R I h => ?_⟩
  refine wpAny_Call_Name_kw (ld_blt I hg hm boot_enumerate ?_)
  refine callWith_clsKw (thn (ha.run pos pins s σ H _ I h) fun us s1 ⟨vs, H1, I1, r1, q1⟩ => thn ((pk_cons pe_int pk_nil).run pos pins s1 σ H1 _ I1 (show tCons (tC (.int c)) tNil σ H1 (fun zs H2 => zs = [.int c] ∧ H2 = H1) from ⟨rfl, rfl⟩)) fun ws s2 ⟨zs, H2, I2, r2, e2, e3⟩ => ?_) hall hpl hnone (by rw [hs]; rfl)
  subst e2 e3
  obtain ⟨a, xs, ex, hq, q⟩ := q1
  subst ex
  rw [hks]
  obtain ⟨u, rfl, ru⟩ := vals1 r1
  obtain ⟨v, rfl, t, rfl⟩ := vals1 r2
  cases (show u = Value.ref a from ru)
  obtain ⟨its, rv, p', hz⟩ := I2.list hq
  refine enum_begins_start (begins_list a its.toArray) p'.isList h0 h1 fun h' he hit hsz hk => wpAny_pyIter_enum he ?_
  have I3 : Inv X pins σ H2 { s2 with heap := h' } := I2.kept (t' := s2.toks) hk
  refine ⟨s2.heap.objs.size + 1, [s2.heap.objs.size + 1, s2.heap.objs.size], _, _, H2, rfl, I3, turn_enumC a (s2.heap.objs.size + 1) s2.heap.objs.size c, ⟨⟨.none, ?_⟩, ⟨_, hit, rfl, rfl⟩, Nat.succ_ne_self _⟩, fun b hb => ?_, q⟩
  · rw [show c + ((0 : Nat) : Int) = c by omega]
    exact he
  · have hle : s2.heap.objs.size ≤ b := by
      rcases (show b = s2.heap.objs.size + 1 ∨ b = s2.heap.objs.size by simpa using hb) with z | z
      · rw [z]
        exact Nat.le_succ _
      · rw [z]
        exact Nat.le_refl _
    exact I2.fpOk hle (I2.hok.fresh hle)

/-! ### powers of great numbers -/
def CPowW (i j : Int) : Prop := 0 ≤ j ∧ j ≤ 64 ∧ i.natAbs < 2 ^ 1000
theorem op_powW {X : Cx} : OpR X (binaryOp .Pow) (rI CPowW fun i j => .int (i ^ j.toNat)) := opI fun i j _ _ _ _ _ hc q => by
  obtain ⟨h0, h1, h2⟩ := hc
  refine PyProof.Rows.pow_int h0 ?_ q
  have hb : Builtin.Int.intBits i ≤ 1000 := by
    unfold Builtin.Int.intBits
    split
    · omega
    · rename_i hne
      have : i.natAbs ≠ 0 := by
        intro z
        apply hne
        simp only [beq_iff_eq]
        omega
      have := (Nat.log2_lt this).mpr h2
      omega
  have : (Builtin.Int.intBits i : Int) * j ≤ 1000 * 64 := Int.mul_le_mul (by omega) h1 h0 (by omega)
  omega
end Bk
namespace Bk
open PySem PySem.Spec PyProof.Rows L2

/-! ### heaps that grow, but for one object -/
def But (a : Addr) (H H' : Hp) : Prop := ∀ b o, b ≠ a → H b = some o → H' b = some o
theorem But.refl (a : Addr) (H : Hp) : But a H H := fun _ _ _ h => h
theorem But.trans {a : Addr} {H H1 H2 : Hp} (x : But a H H1) (y : But a H1 H2) : But a H H2 := fun b o n h => y b o n (x b o n h)
theorem But.same {a : Addr} {H H1 : Hp} (x : Same H H1) : But a H H1 := fun b o _ h => x b o h
theorem But.new {a p : Addr} {H : Hp} {o : HO} (n : H p = none) : But a H (upd H p o) := fun b u _ h => by
  rw [upd_ne (ne_of_none h n)]
  exact h
theorem But.at {a : Addr} {H : Hp} {o : HO} : But a H (upd H a o) := fun b u n h => by
  rw [upd_ne n]
  exact h
/-- an object that was not there at H may change -/
theorem But.own {a p : Addr} {H H1 : Hp} {o : HO} (x : But a H H1) (n : H p = none) : But a H (upd H1 p o) := fun b u m h => by
  rw [upd_ne (ne_of_none h n)]
  exact x b u m h
theorem Same.new {p : Addr} {H : Hp} {o : HO} (n : H p = none) : Same H (upd H p o) := fun b u h => by
  rw [upd_ne (ne_of_none h n)]
  exact h
theorem Same.own {p : Addr} {H H1 : Hp} {o : HO} (x : Same H H1) (n : H p = none) : Same H (upd H1 p o) := fun b u h => by
  rw [upd_ne (ne_of_none h n)]
  exact x b u h
theorem Same.but {a : Addr} {H H1 H2 : Hp} (x : Same H H1) (n : H a = none) (y : But a H1 H2) : Same H H2 := fun b o h => y b o (ne_of_none h n) (x b o h)
theorem But.free {a b : Addr} {H H' : Hp} (x : But a H H') (n : b ≠ a) (h : H' b = none) : H b = none := by
  cases q : H b with
  | none => rfl
  | some o =>
    rw [x b o n q] at h
    cases h
theorem But.seq {K : PySem.W.Frag} {a b : Addr} {H H' : Hp} {xs : List V} (x : But a H H') (n : b ≠ a) (h : SqL K H b xs) : SqL K H' b xs := by
  rcases h with (h | ⟨o, h⟩) | h
  · exact .inl (.inl (x _ _ n h))
  · exact .inl (.inr ⟨o, x _ _ n h⟩)
  · exact .inr h
theorem But.seqT {K : PySem.W.Frag} {a b : Addr} {H H' : Hp} {xs : List V} (x : But a H H') (n : b ≠ a) (h : SqT K H b xs) : SqT K H' b xs := by
  rcases h with (h | ⟨o, h⟩) | h
  · exact .inl (.inl (x _ _ n h))
  · exact .inl (.inr ⟨o, x _ _ n h⟩)
  · exact .inr h
theorem Same.seqT {K : PySem.W.Frag} {b : Addr} {H H' : Hp} {xs : List V} (x : Same H H') (h : SqT K H b xs) : SqT K H' b xs := by
  rcases h with (h | ⟨o, h⟩) | h
  · exact .inl (.inl (x _ _ h))
  · exact .inl (.inr ⟨o, x _ _ h⟩)
  · exact .inr h

/-! ### lists of ints -/
abbrev vi (ns : List Int) : List V := ns.map V.int
abbrev di (ns : List Int) : List PyData := ns.map PyData.int
theorem vi_get {ns : List Int} {i : Nat} {x : Int} (h : ns[i]? = some x) : (vi ns)[i]? = some (.int x) := by
  rw [List.getElem?_map, h]
  rfl
theorem vi_at {ns : List Int} {i : Nat} (h : i < ns.length) : (vi ns)[i]? = some (.int ns[i]) := vi_get (List.getElem?_eq_getElem h)
theorem dpAll_ints (K : PySem.W.Frag) (H : Hp) : ∀ ns : List Int, DpAll K H (vi ns) (di ns)
  | [] => .nil
  | n :: r => .cons (.int n) (dpAll_ints K H r)
theorem dp_lst {K : PySem.W.Frag} {H : Hp} {a : Addr} {ns : List Int} (h : SqL K H a (vi ns)) : Dp K H (.ref a) (.list (di ns)) := .lst h (dpAll_ints K H ns)
theorem dp_tup {K : PySem.W.Frag} {H : Hp} {a : Addr} {ns : List Int} (h : SqT K H a (vi ns)) : Dp K H (.ref a) (.tuple (di ns)) := .tup h (dpAll_ints K H ns)
theorem canLay_ints : ∀ ns : List Int, PyData.canLayAll0 (di ns) = true
  | [] => rfl
  | n :: r => by simp [PyData.canLayAll0, PyData.canLay0, canLay_ints r]
theorem depthAll_ints : ∀ ns : List Int, PyData.depthAll (di ns) = 0
  | [] => rfl
  | n :: r => by simp [PyData.depthAll, PyData.depth, depthAll_ints r]
theorem shaped_l (ns : List Int) : SeqAt.shaped (.list (di ns)) = true := by
  simp [SeqAt.shaped, PyData.canLay0, canLay_ints, PyData.depth, depthAll_ints]
theorem shaped_t (ns : List Int) : SeqAt.shaped (.tuple (di ns)) = true := by
  simp [SeqAt.shaped, PyData.canLay0, canLay_ints, PyData.depth, depthAll_ints]
theorem eqvAll_ints : ∀ ns ms : List Int, PyData.eqvAll (di ns) (di ms) = decide (ns = ms)
  | [], [] => rfl
  | [], m :: r => by simp [PyData.eqvAll]
  | n :: r, [] => by simp [PyData.eqvAll]
  | n :: r, m :: q => by
    have ih := eqvAll_ints r q
    simp only [List.map_cons, PyData.eqvAll, PyData.eqv, ih]
    by_cases h1 : n = m
    · by_cases h2 : r = q
      · simp [h1, h2]
      · simp [h1, h2]
    · simp [h1]
theorem eqv_l (ns ms : List Int) : PyData.eqv (.list (di ns)) (.list (di ms)) = decide (ns = ms) := by
  rw [PyData.eqv]
  exact eqvAll_ints ns ms
theorem eqv_t (ns ms : List Int) : PyData.eqv (.tuple (di ns)) (.tuple (di ms)) = decide (ns = ms) := by
  rw [PyData.eqv]
  exact eqvAll_ints ns ms

/-! ### how long a text of data is -/
def wide (k : Nat) (ns : List Int) : Prop := ∀ n ∈ ns, n.natAbs.log2 < k
theorem wide.mono {j k : Nat} {ns : List Int} (h : wide j ns) (hk : j ≤ k) : wide k ns := fun n m => Nat.lt_of_lt_of_le (h n m) hk
theorem wide_lt {k : Nat} {ns : List Int} (h0 : 0 < k) (h : ∀ n ∈ ns, n.natAbs < 2 ^ k) : wide k ns := fun n m => PySem.Flt.log2_lt_of h0 (h n m)
theorem textFrom_le : ∀ (ts : List Str) (k L : Nat) (acc : Str), (∀ t ∈ ts, t.length ≤ L) → (textFrom k acc ts).length ≤ acc.length + (L + 2) * ts.length
  | [], k, L, acc, h => Nat.le_refl _
  | t :: r, k, L, acc, h => by
    have h1 := h t List.mem_cons_self
    have ih := textFrom_le r (k + 1) L (acc ++ (if k > 0 then ", " else "" : String) ++ t) fun u m => h u (List.mem_cons_of_mem _ m)
    show (textFrom (k + 1) (acc ++ (if k > 0 then ", " else "" : String) ++ t) r).length ≤ _
    refine Nat.le_trans ih ?_
    rw [strLen_append, strLen_append, List.length_cons, Nat.mul_add]
    have e : ((if k > 0 then ", " else "" : String) : Str).length ≤ 2 := by
      split
      · exact Nat.le_refl 2
      · exact Nat.zero_le 2
    omega
theorem listText_le {ts : List Str} {L : Nat} (h : ∀ t ∈ ts, t.length ≤ L) : (listText ts).length ≤ (L + 2) * ts.length + 2 := by
  unfold listText
  rw [strLen_append]
  have := textFrom_le ts 0 L "[" h
  have e1 : (("[" : String) : Str).length = 1 := rfl
  have e2 : (("]" : String) : Str).length = 1 := rfl
  omega
theorem piled_le : ∀ {ts : List Str} {L : Nat}, (∀ t ∈ ts, t.length ≤ L) → piled ts ≤ (L + 2) * ts.length
  | [], L, _ => by simp [piled]
  | t :: r, L, h => by
    have := h t List.mem_cons_self
    have ih := piled_le (ts := r) (L := L) fun u m => h u (List.mem_cons_of_mem _ m)
    rw [piled_cons, List.length_cons, Nat.mul_add]
    omega
theorem tupleText_le {ts : List Str} {L : Nat} (h : ∀ t ∈ ts, t.length ≤ L) : (tupleText ts).length ≤ (L + 2) * ts.length + 3 := by
  unfold tupleText
  rw [strLen_append, strLen_append]
  have e1 : ((("(" : String) : Str)).length = 1 := rfl
  have e3 : (((if ts.length == 1 then ",)" else ")" : String) : Str)).length ≤ 2 := by split <;> decide
  rw [e1]
  by_cases hn : ts = []
  · subst hn
    have : (Str.join ", " ([] : List Str)).length = 0 := rfl
    omega
  · have j := join_length_add ts hn
    have p := piled_le h
    omega
theorem shownAll_ints : ∀ ns : List Int, PyData.shownAll (di ns) = ns.map fun i => (toString i : Str)
  | [] => rfl
  | n :: r => by
    show PyData.shown (.int n) :: PyData.shownAll (di r) = _
    rw [shownAll_ints r, PyData.shown]
    rfl
theorem shown_le {k : Nat} {ns : List Int} (hk : 0 < k) (h : wide k ns) : ∀ t ∈ PyData.shownAll (di ns), t.length ≤ k + 1 := by
  intro t m
  rw [shownAll_ints] at m
  obtain ⟨i, hi, rfl⟩ := List.mem_map.mp m
  rw [PySem.ofString_length]
  exact int_text_length_le hk (h i hi)
theorem showable_ints : ∀ {ns : List Int}, wide 1920 ns → PyData.showableAll (di ns) = true
  | [], _ => rfl
  | n :: r, h => by
    have h1 : n.natAbs.log2 < 1920 := h n List.mem_cons_self
    have h2 := showable_ints (ns := r) fun m hm => h m (List.mem_cons_of_mem _ hm)
    simp [PyData.showableAll, PyData.showable, h1, h2]
theorem noDict_ints : ∀ ns : List Int, PyData.hasDictAll (di ns) = false
  | [] => rfl
  | n :: r => by simp [PyData.hasDictAll, PyData.hasDict, noDict_ints r]
/-- what repr asks of a list, a tuple of ints -/
theorem repr_l {K : PySem.W.Frag} {H : Hp} {a : Addr} {ns : List Int} {Q : VK} (h : SqL K H a (vi ns)) (hw : wide 1900 ns) (hl : ns.length ≤ 4000) (q : Q (.str (PyData.list (di ns)).shown) H) : rRepr K [.ref a] H Q := by
  refine ⟨a, .list (di ns), rfl, dp_lst h, ?_, ?_, ?_, ?_, q⟩
  · simp [PyData.showable, showable_ints (hw.mono (by decide))]
  · simp [PyData.hasDict, noDict_ints]
  · simp [PyData.depth, depthAll_ints]
  · rw [PyData.shown]
    have := listText_le (shown_le (by decide) hw)
    rw [shownAll_ints, List.length_map, ← shownAll_ints] at this
    rw [sizeLine_eq]
    omega
theorem repr_t {K : PySem.W.Frag} {H : Hp} {a : Addr} {ns : List Int} {Q : VK} (h : SqT K H a (vi ns)) (hw : wide 1900 ns) (hl : ns.length ≤ 4000) (q : Q (.str (PyData.tuple (di ns)).shown) H) : rRepr K [.ref a] H Q := by
  refine ⟨a, .tuple (di ns), rfl, dp_tup h, ?_, ?_, ?_, ?_, q⟩
  · simp [PyData.showable, showable_ints (hw.mono (by decide))]
  · simp [PyData.hasDict, noDict_ints]
  · simp [PyData.depth, depthAll_ints]
  · rw [PyData.shown]
    have := tupleText_le (shown_le (by decide) hw)
    rw [shownAll_ints, List.length_map, ← shownAll_ints] at this
    rw [sizeLine_eq]
    omega
end Bk
namespace Bk
open PySem PySem.Spec PyProof.Rows L2 Evl

section
variable {X : Cx} {CX : CXT} {k : Nat} {f : Addr} {fd : FuncData} {ps ks : List Str} {sp : Sp} {E : XK} {x : Str} {p pos : Pos} {tk : TA} {kws : List Keyword}
/-- f(k = v, ..) -/
theorem callGK0 {g : List Value → List Value → List Value} {gV : List V → List V → List V} (F : FnG X.prog X.w X.K X.mg X.base CX k f fd ps sp) (hr : Rm k X.A) (hg : Gl X x) (hm : X.mg x = some (.ref f)) (hk : PySem.W.keepIn X.K (.ref f) = true)
    (hb : KBinds X.K fd ps ks g gV) (hx : Passes CX X E) (hkw : PK X kws tk) (hall : (backToKw pos (keywordEach kws X.env)).all (·.1.isSome) = true := by rfl)
    (hks : (backToKw pos (keywordEach kws X.env)).filterMap (·.1) = ks := by rfl) (hdb : (x == ("__debug__" : Str)) = false := by decide)
    (hpl : ((backTo pos (starEach [] X.env)).any (·.1) || (backToKw pos (keywordEach kws X.env)).any (·.1.isNone)) = false := by rfl) :
    PE X (.Call (.Name x p) [] kws pos) (tCallK sp gV E tNil tk) := by
  refine ⟨fun pins s σ H Q I h => wpAny_Call_Name_kw (ld_glob I hg hm ?_ hdb)⟩
  refine PySem.W.callWith_KW0 (h₀ := X.base) I.ok.mod.kin hk hall (thn (hkw.run pos pins s σ H _ I h) ?_) hpl
  intro ws s2 ⟨zs, H2, I2, rz, q2⟩
  refine ⟨I2.kIn, ?_⟩
  rw [hks]
  exact runGK F hr hb hx I2 .nil rz q2
end

/-- how keywords are put into the parameters' order -/
def gK {α : Type} (na nk : Nat) (idx : List Nat) (us ws : List α) : List α := if us.length = na ∧ ws.length = nk then idx.filterMap (fun i => (us ++ ws)[i]?) else []
theorem vals_pick {xs : List V} {us : List Value} (r : Vals xs us) : ∀ idx : List Nat, Vals (idx.filterMap (fun i => xs[i]?)) (idx.filterMap (fun i => us[i]?))
  | [] => .nil
  | i :: idx => by
    have ih := vals_pick r idx
    cases g : xs[i]? with
    | none =>
      rw [List.filterMap_cons_none (by exact g), List.filterMap_cons_none (by exact r.none_of g)]
      exact ih
    | some x =>
      obtain ⟨u, hu, rx⟩ := r.get g
      rw [List.filterMap_cons_some (by exact g), List.filterMap_cons_some (by exact hu)]
      exact .cons rx ih
theorem gK_rel {na nk : Nat} {idx : List Nat} {vs : List V} {us : List Value} {zs : List V} {ws : List Value} (r : Vals vs us) (rz : Vals zs ws) : Vals (gK na nk idx vs zs) (gK na nk idx us ws) := by
  unfold gK
  rw [r.length, rz.length]
  split
  · exact vals_pick (r.append rz) idx
  · exact .nil
theorem gK_len {α : Type} {na nk n : Nat} {idx : List Nat} {us ws : List α} (h : (gK na nk idx us ws).length = n) (hn : n ≠ 0) : us.length = na ∧ ws.length = nk := by
  unfold gK at h
  split at h
  · assumption
  · exact absurd h.symm hn

/-! ### isinstance of a built-in class -/
theorem isi_ty {K : PySem.W.Frag} {H : Hp} {x : V} {t T : String} {b : Bool} {Q : VK} (ty : TyX K H x (.type t)) (k : kitB t T = some b) (q : Q (.bl b) H) : rIsi K [x, .ty T] H Q :=
  ⟨x, .ty T, .type t, .type T, b, rfl, .ty T, ty, kit_ty k, q⟩
theorem kb_int_int : kitB "int" "int" = some true := by decide +kernel
theorem kb_int_bool : kitB "int" "bool" = some false := by decide +kernel
theorem kb_list_list : kitB "list" "list" = some true := by decide +kernel
theorem kb_tuple_tuple : kitB "tuple" "tuple" = some true := by decide +kernel
theorem bt_int : bootBuiltins "int" = some (.type "int") := by decide +kernel
theorem bt_bool : bootBuiltins "bool" = some (.type "bool") := by decide +kernel
theorem bt_list : bootBuiltins "list" = some (.type "list") := by decide +kernel
theorem bt_tuple : bootBuiltins "tuple" = some (.type "tuple") := by decide +kernel
/-- the type of a list that is read -/
theorem ty_seql {K : PySem.W.Frag} {H : Hp} {a : Addr} {xs : List V} (h : SqL K H a xs) : TyX K H (.ref a) (.type "list") := by
  rcases h with (h | ⟨o, h⟩) | ⟨o, its, n, hk, hc, _⟩
  · exact .base (.lst h)
  · exact .base (.frz h)
  · exact .kList hk hc
theorem ty_seqt {K : PySem.W.Frag} {H : Hp} {a : Addr} {xs : List V} (h : SqT K H a xs) : TyX K H (.ref a) (.type "tuple") := by
  rcases h with (h | ⟨o, h⟩) | ⟨o, its, n, hk, hc, _⟩
  · exact .base (.tup h)
  · exact .fTuple h
  · exact .kTuple hk hc

/-! ### more of what evaluates to what -/
section
variable {K : PySem.W.Frag} {σ : L2.St} {H H' : Hp} {ta tb te : TE} {t u : TT} {x y z v : V}
theorem ev_isi {T t : String} {b : Bool} (h : Ev ta σ H x) (ty : ∀ H1, Ex H H1 → TyX K H1 x (.type t)) (k : kitB t T = some b) : Ev (tCB (rIsi K) (tCons ta (tCons (tC (.ty T)) tNil))) σ H (.bl b) := fun H1 e Q q =>
  h H1 e _ fun H2 e2 => isi_ty (ty H2 (e.trans e2)) k (q H2 e2)
theorem ev_sum {p : Addr} {ns : List Int} (ha : Ev ta σ H (.ref p)) (h : SqL K H p (vi ns)) : Ev (tCB (rSum K) (tCons ta tNil)) σ H (.int ns.sum) := fun H1 e Q q =>
  ha H1 e _ fun H2 e2 => ⟨p, ns, rfl, ex_l (e.trans e2) h, q H2 e2⟩
theorem ev_sumN {ns : List Int} (ha : EvL ta σ H (vi ns)) : Ev (tCB (rSum K) (tCons ta tNil)) σ H (.int ns.sum) := fun H1 e Q q =>
  ha H1 e _ fun p H2 hp e2 h2 => ⟨p, ns, rfl, sq_of h2, q H2 e2⟩
theorem ev_int1 {i : Int} (ha : Ev ta σ H (.int i)) : Ev (tCB (fun xs H Q => (∃ i, xs = [.int i] ∧ Q (.int i) H) ∨ ∃ k, xs = [.bl k] ∧ Q (.int (if k then 1 else 0)) H) (tCons ta tNil)) σ H (.int i) := fun H1 e Q q =>
  ha H1 e _ fun H2 e2 => .inl ⟨i, rfl, q H2 e2⟩
theorem ev_abs {i : Int} (ha : Ev ta σ H (.int i)) : Ev (tCB (fun xs H Q => ∃ i, xs = [.int i] ∧ Q (.int (if i < 0 then -i else i)) H) (tCons ta tNil)) σ H (.int (if i < 0 then -i else i)) := fun H1 e Q q =>
  ha H1 e _ fun H2 e2 => ⟨i, rfl, q H2 e2⟩
theorem ev_min2 {i j : Int} (ha : Ev ta σ H (.int i)) (hb : Ev tb σ H (.int j)) : Ev (tCB (fun xs H Q => ∃ i j, xs = [.int i, .int j] ∧ Q (.int (if j < i then j else i)) H) (tCons ta (tCons tb tNil))) σ H (.int (if j < i then j else i)) := fun H1 e Q q =>
  ha H1 e _ fun H2 e2 => hb H2 (e.trans e2) _ fun H3 e3 => ⟨i, j, rfl, q H3 (e2.trans e3)⟩
/-- tuple(xs), xs a new list -/
def rTupOf (K : PySem.W.Frag) : List V → Hp → VK → Prop := fun xs H Q => ∃ p ys, xs = [.ref p] ∧ ((SqL K H p ys ∧ ∀ l, H l = none → Q (.ref l) (upd H l (.tup ys))) ∨ (SqT K H p ys ∧ Q (.ref p) H))
theorem eu_tupOf {p : Addr} {xs : List V} (ha : Ev ta σ H (.ref p)) (h : SqL K H p xs) : EvU (tCB (rTupOf K) (tCons ta tNil)) σ H xs := fun H1 e Q q =>
  ha H1 e _ fun H2 e2 => ⟨p, xs, rfl, .inl ⟨ex_l (e.trans e2) h, fun l hl => q l _ (fresh_back e2 hl) (e2.trans (Ex.new hl)) upd_same⟩⟩
theorem eu_tupOfN {xs : List V} (ha : EvL ta σ H xs) : EvU (tCB (rTupOf K) (tCons ta tNil)) σ H xs := fun H1 e Q q =>
  ha H1 e _ fun p H2 hp e2 h2 => ⟨p, xs, rfl, .inl ⟨sq_of h2, fun l hl => q l _ (fresh_back e2 hl) (e2.trans (Ex.new hl)) upd_same⟩⟩
/-- a + b of lists -/
theorem el_cat {p q : Addr} {xs ys : List V} (ha : Ev ta σ H (.ref p)) (hb : EvL tb σ H ys) (h : H p = some (.lst xs)) (hz : xs.length + ys.length ≤ 100000) : EvL (tOp rCat ta tb) σ H (xs ++ ys) := fun H1 e Q k =>
  ha H1 e _ fun H2 e2 => hb H2 (e.trans e2) _ fun r H3 hr e3 h3 => ⟨p, r, xs, ys, rfl, rfl, e3 _ _ (e2 _ _ (e _ _ h)), h3, sz_of hz, fun l hl => k l _ (fresh_back (e2.trans e3) hl) ((e2.trans e3).trans (Ex.new hl)) upd_same⟩
theorem el_catNN {xs ys : List V} (ha : EvL ta σ H xs) (hb : EvL tb σ H ys) (hz : xs.length + ys.length ≤ 100000) : EvL (tOp rCat ta tb) σ H (xs ++ ys) := fun H1 e Q k =>
  ha H1 e _ fun p H2 hp e2 h2 => hb H2 (e.trans e2) _ fun r H3 hr e3 h3 => ⟨p, r, xs, ys, rfl, rfl, e3 _ _ h2, h3, sz_of hz, fun l hl => k l _ (fresh_back (e2.trans e3) hl) ((e2.trans e3).trans (Ex.new hl)) upd_same⟩
theorem el_catPP {p q : Addr} {xs ys : List V} (ha : Ev ta σ H (.ref p)) (hb : Ev tb σ H (.ref q)) (h : H p = some (.lst xs)) (h' : H q = some (.lst ys)) (hz : xs.length + ys.length ≤ 100000) : EvL (tOp rCat ta tb) σ H (xs ++ ys) := fun H1 e Q k =>
  ha H1 e _ fun H2 e2 => hb H2 (e.trans e2) _ fun H3 e3 => ⟨p, q, xs, ys, rfl, rfl, e3 _ _ (e2 _ _ (e _ _ h)), e3 _ _ (e2 _ _ (e _ _ h')), sz_of hz, fun l hl => k l _ (fresh_back (e2.trans e3) hl) ((e2.trans e3).trans (Ex.new hl)) upd_same⟩

/-! ### pairs: enumerate, zip -/
abbrev g2 (K : PySem.W.Frag) (i j : Nat) : TG := gTup K 2 (gCons (gName i) (gCons (gName j) gNil))
theorem g2_go {i j : Nat} {T : Addr} {x y : V} {Q : L2.St → Hp → Prop} (h : H T = some (.tup [x, y])) (q : Q ((σ.set i (some x)).set j (some y)) H) : g2 K i j (.ref T) σ H Q :=
  ⟨T, [x, y], rfl, .inl (.inl h), rfl, x, [y], rfl, y, [], rfl, rfl, q⟩
variable {D : Ends} {tu tz : TS}
theorem for_Itn {a : Addr} {xs : List V} {c : Int} {i j : Nat} (Pv : Nat → L2.St → Hp → Prop) (h0 : Pv 0 σ H) (hl : ∀ n σ' H', n ≤ xs.length → Pv n σ' H' → SqL K H' a xs)
    (hs : ∀ n x σ' H', xs[n]? = some x → Pv n σ' H' → ∀ H1, Ex H' H1 → tu { D with nx := Pv (n + 1), ct := Pv (n + 1), bk := D.nx } ((σ'.set i (some (.int (c + (n : Nat))))).set j (some x)) H1) (hd : ∀ σ' H', Pv xs.length σ' H' → D.nx σ' H') :
    ∃ W : Nat → Nat → L2.St → Hp → Prop, (∃ m, W 0 m σ H) ∧ ∀ n m σ H, W n m σ H → ((Itn K a c).stop n H ∧ D.nx σ H) ∨ ((Itn K a c).go n H ∧ ∃ N : L2.St → Hp → Prop, (∀ σ' H', N σ' H' → ∃ m', m' < m ∧ W (n + 1) m' σ' H') ∧
      ∀ x H', (Itn K a c).yld n H x H' → g2 K i j x σ H' fun σ2 H2 => tu { D with nx := N, ct := N, bk := D.nx } σ2 H2) := by
  refine ⟨fun n m σ H => m = xs.length - n ∧ n ≤ xs.length ∧ Pv n σ H, ⟨xs.length, by simp, Nat.zero_le _, h0⟩, ?_⟩
  rintro n m σ H ⟨rfl, hi, p⟩
  have q := hl n σ H hi p
  by_cases hlt : n < xs.length
  · refine .inr ⟨⟨xs, xs[n], q, by simp [hlt]⟩, Pv (n + 1), fun σ' H' p' => ⟨xs.length - (n + 1), by omega, rfl, hlt, p'⟩, ?_⟩
    rintro v H' ⟨T, x, rfl, nT, rfl, hx⟩
    exact g2_go upd_same (hs n x σ H (hx xs q) p _ (Ex.new nT))
  · have e : n = xs.length := by omega
    subst e
    exact .inl ⟨⟨xs, q, rfl⟩, hd σ H p⟩
theorem for_Ite {a : Addr} {xs : List V} {i j : Nat} (Pv : Nat → L2.St → Hp → Prop) (h0 : Pv 0 σ H) (hl : ∀ n σ' H', n ≤ xs.length → Pv n σ' H' → SqL K H' a xs)
    (hs : ∀ n x σ' H', xs[n]? = some x → Pv n σ' H' → ∀ H1, Ex H' H1 → tu { D with nx := Pv (n + 1), ct := Pv (n + 1), bk := D.nx } ((σ'.set i (some (.int (n : Nat)))).set j (some x)) H1) (hd : ∀ σ' H', Pv xs.length σ' H' → D.nx σ' H') :
    ∃ W : Nat → Nat → L2.St → Hp → Prop, (∃ m, W 0 m σ H) ∧ ∀ n m σ H, W n m σ H → ((Ite K a).stop n H ∧ D.nx σ H) ∨ ((Ite K a).go n H ∧ ∃ N : L2.St → Hp → Prop, (∀ σ' H', N σ' H' → ∃ m', m' < m ∧ W (n + 1) m' σ' H') ∧
      ∀ x H', (Ite K a).yld n H x H' → g2 K i j x σ H' fun σ2 H2 => tu { D with nx := N, ct := N, bk := D.nx } σ2 H2) := by
  refine ⟨fun n m σ H => m = xs.length - n ∧ n ≤ xs.length ∧ Pv n σ H, ⟨xs.length, by simp, Nat.zero_le _, h0⟩, ?_⟩
  rintro n m σ H ⟨rfl, hi, p⟩
  have q := hl n σ H hi p
  by_cases hlt : n < xs.length
  · refine .inr ⟨⟨xs, xs[n], q, by simp [hlt]⟩, Pv (n + 1), fun σ' H' p' => ⟨xs.length - (n + 1), by omega, rfl, hlt, p'⟩, ?_⟩
    rintro v H' ⟨T, x, rfl, nT, rfl, hx⟩
    exact g2_go upd_same (hs n x σ H (hx xs q) p _ (Ex.new nT))
  · have e : n = xs.length := by omega
    subst e
    exact .inl ⟨⟨xs, q, Nat.le_refl _⟩, hd σ H p⟩
theorem s_forEn {a : Addr} {xs : List V} {tl : TE} {i j : Nat} (h : Ev tl σ H (.ref a)) (hx : SqL K H a xs) (Pv : Nat → L2.St → Hp → Prop) (h0 : ∀ H1, Ex H H1 → Pv 0 σ H1) (hl : ∀ n σ' H', n ≤ xs.length → Pv n σ' H' → SqL K H' a xs)
    (hs : ∀ n x σ' H', xs[n]? = some x → Pv n σ' H' → ∀ H1, Ex H' H1 → tu { D with nx := Pv (n + 1), ct := Pv (n + 1), bk := D.nx } ((σ'.set i (some (.int (n : Nat)))).set j (some x)) H1) (hd : ∀ σ' H', Pv xs.length σ' H' → D.nx σ' H') :
    tFor (iEnum K (tCons tl tNil)) (g2 K i j) tu D σ H :=
  h H (Ex.refl H) _ fun H1 e => ⟨a, xs, rfl, ex_l e hx, for_Ite Pv (h0 H1 e) hl hs hd⟩
theorem s_forEnC {a : Addr} {xs : List V} {tl : TE} {c : Int} {i j : Nat} (h : Ev tl σ H (.ref a)) (hx : SqL K H a xs) (Pv : Nat → L2.St → Hp → Prop) (h0 : ∀ H1, Ex H H1 → Pv 0 σ H1) (hl : ∀ n σ' H', n ≤ xs.length → Pv n σ' H' → SqL K H' a xs)
    (hs : ∀ n x σ' H', xs[n]? = some x → Pv n σ' H' → ∀ H1, Ex H' H1 → tu { D with nx := Pv (n + 1), ct := Pv (n + 1), bk := D.nx } ((σ'.set i (some (.int (c + (n : Nat))))).set j (some x)) H1) (hd : ∀ σ' H', Pv xs.length σ' H' → D.nx σ' H') :
    tFor (iEnumC K (tCons tl tNil) c) (g2 K i j) tu D σ H :=
  h H (Ex.refl H) _ fun H1 e => ⟨a, xs, rfl, ex_l e hx, for_Itn Pv (h0 H1 e) hl hs hd⟩
theorem s_forNEnC {xs : List V} {tl : TE} {c : Int} {i j : Nat} (h : EvL tl σ H xs) (Pv : Addr → Nat → L2.St → Hp → Prop) (h0 : ∀ p H1, H p = none → Ex H H1 → H1 p = some (.lst xs) → Pv p 0 σ H1) (hl : ∀ p n σ' H', n ≤ xs.length → Pv p n σ' H' → SqL K H' p xs)
    (hs : ∀ p n x σ' H', xs[n]? = some x → Pv p n σ' H' → ∀ H1, Ex H' H1 → tu { D with nx := Pv p (n + 1), ct := Pv p (n + 1), bk := D.nx } ((σ'.set i (some (.int (c + (n : Nat))))).set j (some x)) H1) (hd : ∀ p σ' H', Pv p xs.length σ' H' → D.nx σ' H') :
    tFor (iEnumC K (tCons tl tNil) c) (g2 K i j) tu D σ H :=
  h H (Ex.refl H) _ fun p H1 hp e h1 => ⟨p, xs, rfl, sq_of h1, for_Itn (Pv p) (h0 p H1 hp e h1) (hl p) (hs p) (hd p)⟩

/-- [e for i, x in enumerate(xs, start=c) if ..] of pure parts -/
theorem lc_Itn {a : Addr} {xs : List V} {c : Int} {i j : Nat} {vs : List Nat} {H1 : Hp} {Dl : Addr} {Qd : Hp → Prop} (f : Nat → Bool) (v : Nat → V) (hD : H1 Dl = none) (hx : SqL K H1 a xs) (hz : xs.length ≤ 40000)
    (hw : ∀ x y, wipe (((wipe σ vs).set i (some x)).set j (some y)) vs = wipe σ vs)
    (ht : ∀ (n : Nat) x H2, Ex H1 H2 → xs[n]? = some x → EvT t (((wipe σ vs).set i (some (.int (c + (n : Nat))))).set j (some x)) H2 (f n))
    (he : ∀ (n : Nat) x H2, Ex H1 H2 → xs[n]? = some x → f n = true → Ev te (((wipe σ vs).set i (some (.int (c + (n : Nat))))).set j (some x)) H2 (v n)) (hd : ∀ H', Cw H1 f v Dl xs.length H' → Qd H') :
    ∃ W : Nat → Nat → Hp → Prop, (∃ m, W 0 m (upd H1 Dl (.lst []))) ∧ ∀ n m H, W n m H →
      ((Itn K a c).stop n H ∧ Qd H) ∨ ((Itn K a c).go n H ∧ ∃ Nx : Hp → Prop, (∀ H', Nx H' → ∃ m', m' < m ∧ W (n + 1) m' H') ∧ ∀ x H', (Itn K a c).yld n H x H' → g2 K i j x (wipe σ vs) H' fun σ2 H2 => wipe σ2 vs = wipe σ vs ∧ t σ2 H2 fun b H3 =>
        if b = true then te σ2 H3 fun y H4 => ∃ acc, H4 Dl = some (.lst acc) ∧ acc.length < sizeLine ∧ Nx (upd H4 Dl (.lst (acc ++ [y]))) else Nx H3) := by
  refine ⟨fun n m H => m = xs.length - n ∧ n ≤ xs.length ∧ Cw H1 f v Dl n H, ⟨xs.length, by simp, Nat.zero_le _, hD, Ex.new hD, upd_same⟩, ?_⟩
  rintro n m H ⟨rfl, hi, p⟩
  have q := ex_l p.2.1 hx
  by_cases hlt : n < xs.length
  · refine .inr ⟨⟨xs, xs[n], q, by simp [hlt]⟩, Cw H1 f v Dl (n + 1), fun H' p' => ⟨xs.length - (n + 1), by omega, rfl, hlt, p'⟩, ?_⟩
    rintro w H' ⟨T, x, rfl, nT, rfl, hg⟩
    have e1 := Ex.new (o := .tup [.int (c + (n : Nat)), x]) nT
    have gx := hg xs q
    refine g2_go upd_same ⟨hw _ _, cw_turn ⟨p.1, p.2.1.trans e1, e1 _ _ p.2.2⟩ (by omega) (ht n x H1 (Ex.refl H1) gx) (he n x H1 (Ex.refl H1) gx)⟩
  · have e : n = xs.length := by omega
    subst e
    exact .inl ⟨⟨xs, q, rfl⟩, hd H p⟩
theorem el_lcEnC {a : Addr} {xs : List V} {tl : TE} {c : Int} {i j : Nat} {vs : List Nat} (f : Nat → Bool) (v : Nat → V) (h : Ev tl σ H (.ref a)) (hx : SqL K H a xs) (hz : xs.length ≤ 40000)
    (hw : ∀ x y, wipe (((wipe σ vs).set i (some x)).set j (some y)) vs = wipe σ vs)
    (ht : ∀ (n : Nat) x H1, Ex H H1 → xs[n]? = some x → EvT t (((wipe σ vs).set i (some (.int (c + (n : Nat))))).set j (some x)) H1 (f n))
    (he : ∀ (n : Nat) x H1, Ex H H1 → xs[n]? = some x → f n = true → Ev te (((wipe σ vs).set i (some (.int (c + (n : Nat))))).set j (some x)) H1 (v n)) :
    EvL (tLc (iEnumC K (tCons tl tNil) c) (g2 K i j) t te vs) σ H (given xs.length f v) := fun H0 e Q q => h H0 e _ fun H1 e1 => ⟨a, xs, rfl, ex_l (e.trans e1) hx, fun Dl hD =>
  lc_Itn f v hD (ex_l (e.trans e1) hx) hz hw (fun n x H2 e2 gx => ht n x H2 ((e.trans e1).trans e2) gx) (fun n x H2 e2 gx hf => he n x H2 ((e.trans e1).trans e2) gx hf) fun H' p => q Dl H' (fresh_back e1 p.1) (e1.trans p.2.1) p.2.2⟩
theorem el_lcNEnC {xs : List V} {tl : TE} {c : Int} {i j : Nat} {vs : List Nat} (f : Nat → Bool) (v : Nat → V) (h : EvL tl σ H xs) (hz : xs.length ≤ 40000)
    (hw : ∀ x y, wipe (((wipe σ vs).set i (some x)).set j (some y)) vs = wipe σ vs)
    (ht : ∀ (n : Nat) x H1, Ex H H1 → xs[n]? = some x → EvT t (((wipe σ vs).set i (some (.int (c + (n : Nat))))).set j (some x)) H1 (f n))
    (he : ∀ (n : Nat) x H1, Ex H H1 → xs[n]? = some x → f n = true → Ev te (((wipe σ vs).set i (some (.int (c + (n : Nat))))).set j (some x)) H1 (v n)) :
    EvL (tLc (iEnumC K (tCons tl tNil) c) (g2 K i j) t te vs) σ H (given xs.length f v) := fun H0 e Q q => h H0 e _ fun a H1 ha e1 h1 => ⟨a, xs, rfl, sq_of h1, fun Dl hD =>
  lc_Itn f v hD (sq_of h1) hz hw (fun n x H2 e2 gx => ht n x H2 ((e.trans e1).trans e2) gx) (fun n x H2 e2 gx hf => he n x H2 ((e.trans e1).trans e2) gx hf) fun H' p => q Dl H' (fresh_back e1 p.1) (e1.trans p.2.1) p.2.2⟩
/-- [e for x, y in zip(xs, ys)] of pure parts -/
theorem el_lcZ {a b : Addr} {xs ys : List V} {tl tr : TE} {i j : Nat} {vs : List Nat} (v : Nat → V) (h : Ev tl σ H (.ref a)) (h' : Ev tr σ H (.ref b)) (hx : SqL K H a xs) (hy : SqL K H b ys) (hz : xs.length ≤ 40000)
    (hw : ∀ x y, wipe (((wipe σ vs).set i (some x)).set j (some y)) vs = wipe σ vs)
    (he : ∀ (n : Nat) x y H1, Ex H H1 → xs[n]? = some x → ys[n]? = some y → Ev te (((wipe σ vs).set i (some x)).set j (some y)) H1 (v n)) :
    EvL (tLc (iZip K (tCons tl (tCons tr tNil))) (g2 K i j) tYes te vs) σ H (given (min xs.length ys.length) (fun _ => true) v) := fun H0 e Q q => h H0 e _ fun H1 e1 => h' H1 (e.trans e1) _ fun H2 e2 => by
  have ee := (e.trans e1).trans e2
  refine ⟨a, b, xs, ys, rfl, ex_l ee hx, ex_l ee hy, fun Dl hD => ?_⟩
  refine ⟨fun n m H => m = min xs.length ys.length - n ∧ n ≤ min xs.length ys.length ∧ Cw H2 (fun _ => true) v Dl n H, ⟨min xs.length ys.length, by simp, Nat.zero_le _, hD, Ex.new hD, upd_same⟩, ?_⟩
  rintro n m H ⟨rfl, hi, p⟩
  have qx := ex_l (ee.trans p.2.1) hx
  have qy := ex_l (ee.trans p.2.1) hy
  by_cases hlt : n < min xs.length ys.length
  · have h1 : n < xs.length := by omega
    have h2 : n < ys.length := by omega
    refine .inr ⟨⟨xs, ys, xs[n], ys[n], qx, qy, by simp [h1], by simp [h2]⟩, Cw H2 (fun _ => true) v Dl (n + 1), fun H' p' => ⟨min xs.length ys.length - (n + 1), by omega, rfl, hlt, p'⟩, ?_⟩
    rintro w H' ⟨T, x, y, rfl, nT, rfl, gx, gy⟩
    have e3 := Ex.new (o := .tup [x, y]) nT
    refine g2_go upd_same ⟨hw _ _, cw_turn ⟨p.1, p.2.1.trans e3, e3 _ _ p.2.2⟩ (by omega) (fun H3 _ Q q => q H3 (Ex.refl H3)) fun _ => he n x y H2 ee (gx xs qx) (gy ys qy)⟩
  · have e' : n = min xs.length ys.length := by omega
    subst e'
    exact .inl ⟨⟨xs, ys, qx, qy, by omega⟩, q Dl H (fresh_back (e1.trans e2) p.1) ((e1.trans e2).trans p.2.1) p.2.2⟩
end
end Bk
namespace Bk
open PySem PySem.Spec PyProof.Rows L2 Evl

section
variable {K : PySem.W.Frag} {σ : L2.St} {H H' : Hp} {ta tb te tc : TE} {t u : TT} {x y z v : V}
theorem ev_chain {r r' : R2} {w : V} {a b : Bool} (ha : Ev ta σ H x) (hb : Ev tb σ H y) (h1 : RV r x y H (.bl a)) (hc : a = true → Ev tc σ H w) (h2 : a = true → RV r' y w H (.bl b)) : Ev (tChain r r' ta tb tc) σ H (.bl (a && b)) := fun H1 e Q q =>
  ha H1 e _ fun H2 e2 => hb H2 (e.trans e2) _ fun H3 e3 => h1 H3 ((e.trans e2).trans e3) _ fun H4 e4 => ⟨a, rfl, by
    have ee := ((e.trans e2).trans e3).trans e4
    cases a with
    | false =>
      refine iteF ?_
      exact q H4 ((e2.trans e3).trans e4)
    | true =>
      refine iteT ?_
      exact hc rfl H4 ee _ fun H5 e5 => h2 rfl H5 (ee.trans e5) _ fun H6 e6 => q H6 ((((e2.trans e3).trans e4).trans e5).trans e6)⟩
/-- [0] * n and its like -/
theorem el_rep {xs : List V} {n : Int} (ha : EvL ta σ H xs) (hb : ∀ H1, Ex H H1 → Ev tb σ H1 (.int n)) (h0 : 0 ≤ n) (hz : xs.length * n.toNat ≤ 100000) (hn : n ≤ 100000) : EvL (tOp rRep ta tb) σ H (List.replicate n.toNat xs).flatten := fun H1 e Q q =>
  ha H1 e _ fun p H2 hp e2 h2 => hb H2 (e.trans e2) H2 (Ex.refl H2) _ fun H3 e3 => ⟨p, n, xs, rfl, rfl, e3 _ _ h2, by omega, by omega, sz_of hz, fun l hl => q l _ (fresh_back (e2.trans e3) hl) ((e2.trans e3).trans (Ex.new hl)) upd_same⟩
theorem el_ofL {p : Addr} {xs : List V} (ha : Ev ta σ H (.ref p)) (h : SqL K H p xs) : EvL (tCB (fun xs H Q => ∃ p ys, xs = [.ref p] ∧ (SqL K H p ys ∨ SqT K H p ys) ∧ ∀ l, H l = none → Q (.ref l) (upd H l (.lst ys))) (tCons ta tNil)) σ H xs := el_list ha h
/-- list(range(a, b)) -/
theorem el_rg1 {n : Int} (ha : Ev ta σ H (.int n)) (h0 : 0 ≤ n) (hn : n ≤ 100000) : EvL (tLstRg (tRg1 ta)) σ H (rgV 0 n) := fun H1 e Q q =>
  ha H1 e _ fun H2 e2 => ⟨n, rfl, RgOk.of_le (by omega) (by omega) (by omega) h0, fun l hl => q l _ (fresh_back e2 hl) (e2.trans (Ex.new hl)) upd_same⟩
theorem ev_lenT {p : Addr} {xs : List V} (ha : Ev ta σ H (.ref p)) (h : SqT K H p xs) : Ev (tCB (rLenS K) (tCons ta tNil)) σ H (.int (xs.length : Int)) := fun H1 e Q q =>
  ha H1 e _ fun H2 e2 => ⟨p, xs, rfl, Or.inr (ex_t (e.trans e2) h), q H2 e2⟩
theorem ev_lenNT {xs : List V} (ha : EvU ta σ H xs) : Ev (tCB (rLenS K) (tCons ta tNil)) σ H (.int (xs.length : Int)) := fun H1 e Q q =>
  ha H1 e _ fun p H2 _ e2 h2 => ⟨p, xs, rfl, Or.inr (st_of h2), q H2 e2⟩
/-- repr of lists and tuples of ints -/
theorem ev_reprL {p : Addr} {ns : List Int} (ha : Ev ta σ H (.ref p)) (h : SqL K H p (vi ns)) (hw : wide 1900 ns) (hz : ns.length ≤ 4000) : Ev (tCB (rRepr K) (tCons ta tNil)) σ H (.str (PyData.list (di ns)).shown) := fun H1 e Q q =>
  ha H1 e _ fun H2 e2 => repr_l (ex_l (e.trans e2) h) hw hz (q H2 e2)
theorem ev_reprNL {ns : List Int} (ha : EvL ta σ H (vi ns)) (hw : wide 1900 ns) (hz : ns.length ≤ 4000) : Ev (tCB (rRepr K) (tCons ta tNil)) σ H (.str (PyData.list (di ns)).shown) := fun H1 e Q q =>
  ha H1 e _ fun p H2 _ e2 h2 => repr_l (sq_of h2) hw hz (q H2 e2)
theorem ev_reprT {p : Addr} {ns : List Int} (ha : Ev ta σ H (.ref p)) (h : SqT K H p (vi ns)) (hw : wide 1900 ns) (hz : ns.length ≤ 4000) : Ev (tCB (rRepr K) (tCons ta tNil)) σ H (.str (PyData.tuple (di ns)).shown) := fun H1 e Q q =>
  ha H1 e _ fun H2 e2 => repr_t (ex_t (e.trans e2) h) hw hz (q H2 e2)
theorem ev_reprNT {ns : List Int} (ha : EvU ta σ H (vi ns)) (hw : wide 1900 ns) (hz : ns.length ≤ 4000) : Ev (tCB (rRepr K) (tCons ta tNil)) σ H (.str (PyData.tuple (di ns)).shown) := fun H1 e Q q =>
  ha H1 e _ fun p H2 _ e2 h2 => repr_t (st_of h2) hw hz (q H2 e2)
/-- == and != of data -/
theorem rv_eqL {p q : Addr} {ns ms : List Int} (h : SqL K H p (vi ns)) (h' : SqL K H q (vi ms)) : RV (rEqD K) (.ref p) (.ref q) H (.bl (decide (ns = ms))) := fun H1 e Q k =>
  ⟨_, _, dp_lst (ex_l e h), dp_lst (ex_l e h'), shaped_l ns, shaped_l ms, by rw [eqv_l]; exact k H1 (Ex.refl H1)⟩
theorem rv_neL {p q : Addr} {ns ms : List Int} (h : SqL K H p (vi ns)) (h' : SqL K H q (vi ms)) : RV (rNeD K) (.ref p) (.ref q) H (.bl (!decide (ns = ms))) := fun H1 e Q k =>
  ⟨_, _, dp_lst (ex_l e h), dp_lst (ex_l e h'), shaped_l ns, shaped_l ms, by rw [eqv_l]; exact k H1 (Ex.refl H1)⟩
/-- a new tuple from a call -/
def SpU (sp : Sp) (vs : List V) (H : Hp) (xs : List V) : Prop := ∀ H1, Ex H H1 → ∀ Q : VK, (∀ p H2, H1 p = none → Ex H1 H2 → H2 p = some (.tup xs) → Q (.ref p) H2) → ∀ E : XK, sp vs H1 Q E
theorem eu_call {sp : Sp} {dvs vs xs : List V} {E : XK} {ta : TA} (h : EvA ta σ H vs) (hs : SpU sp (vs ++ dvs) H xs) : EvU (tCall sp dvs E ta) σ H xs := fun H1 e Q q =>
  h H1 e _ fun H2 e2 => hs H2 (e.trans e2) Q (fun p H3 hp e3 h3 => q p H3 (fresh_back e2 hp) (e2.trans e3) h3) E
theorem eu_callK {sp : Sp} {gV : List V → List V → List V} {vs zs xs : List V} {E : XK} {ta tk : TA} (h : EvA ta σ H vs) (h' : EvA tk σ H zs) (hs : SpU sp (gV vs zs) H xs) : EvU (tCallK sp gV E ta tk) σ H xs := fun H1 e Q q =>
  h H1 e _ fun H2 e2 => h' H2 (e.trans e2) _ fun H3 e3 => hs H3 ((e.trans e2).trans e3) Q (fun p H4 hp e4 h4 => q p H4 (fresh_back (e2.trans e3) hp) ((e2.trans e3).trans e4) h4) E
theorem el_callK {sp : Sp} {gV : List V → List V → List V} {vs zs xs : List V} {E : XK} {ta tk : TA} (h : EvA ta σ H vs) (h' : EvA tk σ H zs) (hs : SpL sp (gV vs zs) H xs) : EvL (tCallK sp gV E ta tk) σ H xs := fun H1 e Q q =>
  h H1 e _ fun H2 e2 => h' H2 (e.trans e2) _ fun H3 e3 => hs H3 ((e.trans e2).trans e3) Q (fun p H4 hp e4 h4 => q p H4 (fresh_back (e2.trans e3) hp) ((e2.trans e3).trans e4) h4) E
theorem ev_callK {sp : Sp} {gV : List V → List V → List V} {vs zs : List V} {E : XK} {ta tk : TA} (h : EvA ta σ H vs) (h' : EvA tk σ H zs) (hs : SpV sp (gV vs zs) H z) : Ev (tCallK sp gV E ta tk) σ H z := fun H1 e Q q =>
  h H1 e _ fun H2 e2 => h' H2 (e.trans e2) _ fun H3 e3 => hs H3 ((e.trans e2).trans e3) Q (fun H4 e4 => q H4 ((e2.trans e3).trans e4)) E
/-- an argument that is a new list, then a call -/
theorem eu_callL {sp : Sp} {xs ys : List V} {E : XK} (h : EvL ta σ H xs) (hs : ∀ p H1, Ex H H1 → H1 p = some (.lst xs) → SpU sp [.ref p] H1 ys) : EvU (tCall sp [] E (tCons ta tNil)) σ H ys := fun H1 e Q q =>
  h H1 e _ fun p H2 hp e2 h2 => hs p H2 (e.trans e2) h2 H2 (Ex.refl H2) Q (fun r H3 hr e3 h3 => q r H3 (fresh_back e2 hr) (e2.trans e3) h3) E
theorem el_callL {sp : Sp} {xs ys : List V} {E : XK} (h : EvL ta σ H xs) (hs : ∀ p H1, Ex H H1 → H1 p = some (.lst xs) → SpL sp [.ref p] H1 ys) : EvL (tCall sp [] E (tCons ta tNil)) σ H ys := fun H1 e Q q =>
  h H1 e _ fun p H2 hp e2 h2 => hs p H2 (e.trans e2) h2 H2 (Ex.refl H2) Q (fun r H3 hr e3 h3 => q r H3 (fresh_back e2 hr) (e2.trans e3) h3) E
theorem ev_callL {sp : Sp} {xs : List V} {E : XK} (h : EvL ta σ H xs) (hs : ∀ p H1, Ex H H1 → H1 p = some (.lst xs) → SpV sp [.ref p] H1 z) : Ev (tCall sp [] E (tCons ta tNil)) σ H z := fun H1 e Q q =>
  h H1 e _ fun p H2 hp e2 h2 => hs p H2 (e.trans e2) h2 H2 (Ex.refl H2) Q (fun H3 e3 => q H3 (e2.trans e3)) E
theorem ev_callU {sp : Sp} {xs : List V} {E : XK} (h : EvU ta σ H xs) (hs : ∀ p H1, Ex H H1 → H1 p = some (.tup xs) → SpV sp [.ref p] H1 z) : Ev (tCall sp [] E (tCons ta tNil)) σ H z := fun H1 e Q q =>
  h H1 e _ fun p H2 hp e2 h2 => hs p H2 (e.trans e2) h2 H2 (Ex.refl H2) Q (fun H3 e3 => q H3 (e2.trans e3)) E
def RetU (xs : List V) (H : Hp) (Q : VK) : Prop := ∀ p H2, H p = none → Ex H H2 → H2 p = some (.tup xs) → Q (.ref p) H2
end

/-! ### a well: three ints, of which draws are made -/
def Well (H : Hp) (a : Addr) (n : Nat) : Prop := ∃ x y c : Int, H a = some (.lst [.int x, .int y, .int c]) ∧ 0 ≤ y ∧ y < 2 ^ 200 ∧ 0 ≤ c ∧ c ≤ n
theorem Well.mono {H : Hp} {a : Addr} {n m : Nat} (h : Well H a n) (l : n ≤ m) : Well H a m := by
  obtain ⟨x, y, c, h1, h2, h3, h4, h5⟩ := h
  exact ⟨x, y, c, h1, h2, h3, h4, by omega⟩
theorem Well.ex {H H' : Hp} {a : Addr} {n : Nat} (h : Well H a n) (e : Ex H H') : Well H' a n := by
  obtain ⟨x, y, c, h1, h2⟩ := h
  exact ⟨x, y, c, e _ _ h1, h2⟩
theorem Well.ne {H : Hp} {a p : Addr} {n : Nat} (h : Well H a n) (hp : H p = none) : p ≠ a := by
  obtain ⟨x, y, c, h1, h2⟩ := h
  exact (ne_of_none h1 hp).symm
/-- the promise of a draw -/
def sp_dr (K : PySem.W.Frag) : Sp := fun vs H Q _ => ∃ (a : Addr) (n : Nat) (m : Int), vs = [.ref a, .int m] ∧ Well H a n ∧ n + 1 ≤ 2 ^ 50 ∧ 0 < m ∧ m < 2 ^ 8000 ∧
  ∀ (r : Int) (H2 : Hp), But a H H2 → Well H2 a (n + 1) → 0 ≤ r → r < m → Q (.int r) H2
/-- without the well -/
def hid (a : Addr) (H : Hp) : Hp := fun b => if b = a then none else H b
theorem hid_ne {a b : Addr} {H : Hp} (h : b ≠ a) : hid a H b = H b := if_neg h
theorem ex_hid {a : Addr} {H H1 : Hp} (x : But a H H1) : Ex (hid a H) H1 := fun b o h => by
  by_cases c : b = a
  · rw [c] at h
    unfold hid at h
    rw [if_pos rfl] at h
    cases h
  · rw [hid_ne c] at h
    exact x b o c h
theorem But.ex {a : Addr} {H H1 : Hp} (x : Ex H H1) : But a H H1 := fun b o _ h => x b o h
/-- what evaluates, drawing d times, to something of which P -/
def EvW (a : Addr) (d : Nat) (te : TE) (σ : L2.St) (H : Hp) (P : V → Prop) : Prop := ∀ (n : Nat) (H1 : Hp), But a H H1 → Well H1 a n → n + d ≤ 2 ^ 50 → ∀ Q : VK, (∀ v H2, But a H1 H2 → Well H2 a (n + d) → P v → Q v H2) → te σ H1 Q
def EvWL (a : Addr) (d : Nat) (te : TE) (σ : L2.St) (H : Hp) (P : List V → Prop) : Prop := ∀ (n : Nat) (H1 : Hp), But a H H1 → Well H1 a n → n + d ≤ 2 ^ 50 → ∀ Q : VK, (∀ p xs H2, H1 p = none → But a H1 H2 → Well H2 a (n + d) → H2 p = some (.lst xs) → P xs → Q (.ref p) H2) → te σ H1 Q
section
variable {K : PySem.W.Frag} {σ : L2.St} {H : Hp} {ta tb te ti tl : TE} {a : Addr} {d d1 d2 : Nat} {P P1 P2 : V → Prop} {v : V}
theorem EvW.mono (x : EvW a d te σ H P) (h : ∀ v, P v → P1 v) : EvW a d te σ H P1 := fun n H1 b w l Q q => x n H1 b w l Q fun v H2 b2 w2 p => q v H2 b2 w2 (h v p)
theorem ew_pure (h : Ev te σ (hid a H) v) (p : P v) : EvW a 0 te σ H P := fun n H1 b w l Q q => h H1 (ex_hid b) Q fun H2 e2 => q v H2 (But.ex e2) (w.ex e2) p
theorem ew_op {r : R2} (h1 : EvW a d1 ta σ H P1) (h2 : EvW a d2 tb σ H P2) (hr : ∀ x y, P1 x → P2 y → ∃ z, (∀ H, RV r x y H z) ∧ P z) : EvW a (d1 + d2) (tOp r ta tb) σ H P := fun n H1 b w l Q q =>
  h1 n H1 b w (by omega) _ fun x H2 b2 w2 p => h2 (n + d1) H2 (b.trans b2) w2 (by omega) _ fun y H3 b3 w3 p' => by
    obtain ⟨z, hz, pz⟩ := hr x y p p'
    refine hz H3 H3 (Ex.refl H3) Q fun H4 e4 => q z H4 ((b2.trans b3).trans (But.ex e4)) ?_ pz
    have w4 := w3.ex e4
    rw [Nat.add_assoc] at w4
    exact w4
/-- draw(well, e) -/
theorem ew_draw {i : Nat} {E : XK} (hσ : σ[i]? = some (some (.ref a))) (h : EvW a d te σ H P) (hP : ∀ v, P v → ∃ m : Int, v = .int m ∧ 0 < m ∧ m < 2 ^ 8000) :
    EvW a (d + 1) (tCall (sp_dr K) [] E (tCons (tVar i) (tCons te tNil))) σ H (fun v => ∃ m r : Int, P (.int m) ∧ v = .int r ∧ 0 ≤ r ∧ r < m) := fun n H1 b w l Q q => by
  refine ⟨.ref a, hσ, ?_⟩
  refine h n H1 b w (by omega) _ fun x H2 b2 w2 p => ?_
  obtain ⟨m, rfl, h0, h1⟩ := hP x p
  refine ⟨a, n + d, m, rfl, w2, by omega, h0, h1, fun r H3 b3 w3 r0 r1 => q _ H3 (b2.trans b3) ?_ ⟨m, r, p, rfl, r0, r1⟩⟩
  exact w3
/-- draw(well, m) -/
theorem ew_drawC {i : Nat} {E : XK} {m : Int} (hσ : σ[i]? = some (some (.ref a))) (h : Ev te σ (hid a H) (.int m)) (h0 : 0 < m) (h1 : m < 2 ^ 8000) :
    EvW a 1 (tCall (sp_dr K) [] E (tCons (tVar i) (tCons te tNil))) σ H (fun v => ∃ r : Int, v = .int r ∧ 0 ≤ r ∧ r < m) :=
  (ew_draw hσ (ew_pure (P := fun v => v = .int m) h rfl) fun v e => ⟨m, e, h0, h1⟩).mono fun v ⟨m', r, e, ev, r0, r1⟩ => by
    cases e
    exact ⟨r, ev, r0, r1⟩
/-- [..][e] with the list made ahead -/
theorem ew_ix {xs : List V} (hl : EvL tl σ (hid a H) xs) (hi : EvW a d ti σ H P) (hP : ∀ v, P v → ∃ (i : Int) (x : V), v = .int i ∧ atI xs i = some x ∧ P1 x) : EvW a d (tOp (rIxL K) tl ti) σ H P1 := fun n H1 b w l Q q =>
  hl H1 (ex_hid b) _ fun p H2 hp e2 h2 => hi n H2 (b.trans (But.ex e2)) (w.ex e2) l _ fun v H3 b3 w3 pv => by
    obtain ⟨i, x, rfl, hx, px⟩ := hP v pv
    exact ⟨p, xs, i, x, rfl, rfl, sq_of (b3 p _ (w.ne hp) h2), hx, q x H3 ((But.ex e2).trans b3) w3 px⟩
/-- an own value's wish: e + e' of ints -/
theorem ew_add {P1 P2 P : Int → Prop} (h1 : EvW a d1 ta σ H (fun v => ∃ r, v = .int r ∧ P1 r)) (h2 : EvW a d2 tb σ H (fun v => ∃ r, v = .int r ∧ P2 r)) (h : ∀ x y, P1 x → P2 y → P (x + y)) :
    EvW a (d1 + d2) (tOp (rI0 fun i j => .int (i + j)) ta tb) σ H (fun v => ∃ r, v = .int r ∧ P r) :=
  ew_op h1 h2 fun x y ⟨i, ei, p⟩ ⟨j, ej, p'⟩ => ⟨.int (i + j), fun H => by
    rw [ei, ej]
    exact rv_I0, i + j, rfl, h i j p p'⟩
theorem ew_c {i : Int} {P : Int → Prop} (p : P i) : EvW a 0 (tC (.int i)) σ H (fun v => ∃ r, v = .int r ∧ P r) := ew_pure ev_c ⟨i, rfl, p⟩
theorem ew_v {j : Nat} {i : Int} {P : Int → Prop} (h : σ[j]? = some (some (.int i))) (p : P i) : EvW a 0 (tVar j) σ H (fun v => ∃ r, v = .int r ∧ P r) := ew_pure (ev_var h) ⟨i, rfl, p⟩
/-! statements -/
variable {D : Ends} {tu tw tz : TS} {n : Nat}
theorem sw_asg {i : Nat} (h : EvW a d te σ H P) (w : Well H a n) (l : n + d ≤ 2 ^ 50) (k : ∀ v H1, But a H H1 → Well H1 a (n + d) → P v → D.nx (σ.set i (some v)) H1) : tAsg te (gName i) D σ H :=
  h n H (But.refl a H) w l _ fun v H2 b2 w2 p => k v H2 b2 w2 p
theorem qw_asg {i : Nat} (h : EvW a d te σ H P) (w : Well H a n) (l : n + d ≤ 2 ^ 50) (k : ∀ v H1, But a H H1 → Well H1 a (n + d) → P v → tz D (σ.set i (some v)) H1) : tSeq (tAsg te (gName i)) tz D σ H :=
  sw_asg (D := { D with nx := tz D }) h w l k
theorem qw_if {te : TE} (h : EvW a d te σ H (fun v => ∃ b, v = .bl b)) (w : Well H a n) (l : n + d ≤ 2 ^ 50) (k1 : ∀ H1, But a H H1 → Well H1 a (n + d) → tu { D with nx := tz D } σ H1)
    (k2 : ∀ H1, But a H H1 → Well H1 a (n + d) → tw { D with nx := tz D } σ H1) : tSeq (tIfS (tTest te) tu tw) tz D σ H :=
  h n H (But.refl a H) w l _ fun v H2 b2 w2 ⟨b, e⟩ => ⟨b, e, by
    cases b with
    | true => exact iteT (k1 H2 b2 w2)
    | false => exact iteF (k2 H2 b2 w2)⟩
/-- a test draw(..) == c -/
theorem ew_eq {P1 P2 : Int → Prop} (h1 : EvW a d1 ta σ H (fun v => ∃ r, v = .int r ∧ P1 r)) (h2 : EvW a d2 tb σ H (fun v => ∃ r, v = .int r ∧ P2 r)) : EvW a (d1 + d2) (tOp rEq ta tb) σ H (fun v => ∃ b, v = .bl b) :=
  ew_op h1 h2 fun x y ⟨i, ei, p⟩ ⟨j, ej, p'⟩ => ⟨.bl (decide (x = y)), fun H => by
    rw [ei, ej]
    exact rv_eq rfl, _, rfl⟩
end
end Bk
namespace Bk
open PySem PySem.Spec PyProof.Rows L2 Evl

section
variable {K : PySem.W.Frag} {H : Hp}
theorem rv_b {g : Int → Int → Bool} {i j : Int} {b : Bool} (h : g i j = b) : RV (rI0 fun i j => .bl (g i j)) (.int i) (.int j) H (.bl b) := h ▸ rv_I0 (g := fun i j => .bl (g i j))
theorem p10_pos (n : Nat) : 0 < (10 : Int) ^ n := Int.pow_pos (by decide)
theorem cpw {i j : Int} (h : i.natAbs < 2 ^ 250) (h0 : 0 ≤ j) (h1 : j ≤ 64) : CPowW i j := ⟨h0, h1, Nat.lt_of_lt_of_le h (Nat.pow_le_pow_right (by decide) (by decide))⟩
theorem cdw {j : Int} (i : Int) (h : 0 < j) (hb : j.natAbs < 2 ^ 250) : CDivW i j := wide_div h hb (by decide) (by decide)
theorem cdw8 {j : Int} (i : Int) (h : 0 < j) (hb : j < 2 ^ 8000) : CDivW i j := by
  refine wide_div (b := 8000) h ?_ (by decide) (by decide)
  have e : ((j.natAbs : Nat) : Int) = j := Int.natAbs_of_nonneg (by omega)
  have : ((j.natAbs : Nat) : Int) < ((2 ^ 8000 : Nat) : Int) := by
    rw [e, Int.natCast_pow]
    exact hb
  exact Int.ofNat_lt.mp this
theorem lt8000 {m : Int} (h : m < 2 ^ 250) : m < 2 ^ 8000 := by
  have a : ((2 : Nat) ^ 250) ≤ 2 ^ 8000 := Nat.pow_le_pow_right (by decide) (by decide)
  have b : (((2 : Nat) ^ 250 : Nat) : Int) ≤ (((2 : Nat) ^ 8000 : Nat) : Int) := Int.ofNat_le.mpr a
  rw [Int.natCast_pow, Int.natCast_pow] at b
  exact Int.lt_of_lt_of_le h b
/-- left factor small -/
theorem cml {i j : Int} (h : -(2 ^ 64) < i ∧ i < 2 ^ 64) : CMul i j := .inl h
theorem vi_inv {ns : List Int} {i : Nat} {x : V} (h : (vi ns)[i]? = some x) : ∃ m, x = .int m ∧ ns[i]? = some m ∧ ns.getD i 0 = m := by
  rw [List.getElem?_map] at h
  cases g : ns[i]? with
  | none =>
    rw [g] at h
    cases h
  | some m =>
    rw [g] at h
    cases h
    exact ⟨m, rfl, rfl, by rw [List.getD_eq_getElem?_getD, g]; rfl⟩
theorem given_all (n : Nat) (v : Nat → V) : given n (fun _ => true) v = (List.range n).map v := by
  unfold given
  rw [List.filter_eq_self.mpr (fun _ _ => rfl)]
theorem given_ints (n : Nat) (f : Nat → Int) : given n (fun _ => true) (fun i => V.int (f i)) = vi ((List.range n).map f) := by
  rw [given_all]
  unfold vi
  rw [List.map_map]
  rfl
variable {σ : L2.St} {ta tb te : TE} {t u : TT} {D : Ends} {tu tz : TS}
theorem el_is {xs ys : List V} (h : EvL te σ H xs) (e : xs = ys) : EvL te σ H ys := e ▸ h
theorem eu_is {xs ys : List V} (h : EvU te σ H xs) (e : xs = ys) : EvU te σ H ys := e ▸ h
theorem el_lcR2 {ta : TA} {j : Nat} {vs : List Nat} {lo n : Int} (f : Nat → Bool) (v : Nat → V) (h : EvA ta σ H [.int lo, .int n]) (hn : 0 ≤ lo ∧ lo ≤ 40000 ∧ -40000 ≤ n ∧ n ≤ 40000) (hw : ∀ x, wipe ((wipe σ vs).set j (some x)) vs = wipe σ vs)
    (ht : ∀ (i : Nat) H1, Ex H H1 → lo + (i : Int) < n → EvT t ((wipe σ vs).set j (some (.int (lo + (i : Int))))) H1 (f i)) (he : ∀ (i : Nat) H1, Ex H H1 → lo + (i : Int) < n → f i = true → Ev te ((wipe σ vs).set j (some (.int (lo + (i : Int))))) H1 (v i)) :
    EvL (tLc (iRng2 ta) (gName j) t te vs) σ H (given (n - lo).toNat f v) := fun H0 e Q q => h H0 e _ fun H1 e1 => ⟨lo, n, rfl, ⟨by omega, by omega, by omega, by omega⟩, fun Dl hD =>
  lc_range (lo := lo) (n := (n - lo).toNat) (Cw H1 f v Dl) ⟨hD, Ex.new hD, upd_same⟩ (fun i H' hi p =>
    ⟨hw _, cw_turn p (by omega) (ht i H1 (e.trans e1) (by omega)) (fun hf => he i H1 (e.trans e1) (by omega) hf)⟩) (fun H' p => q Dl H' (fresh_back e1 p.1) (e1.trans p.2.1) p.2.2)⟩
theorem et_yes : EvT tYes σ H true := fun H1 _ Q q => q H1 (Ex.refl H1)
/-- xs.extend(ys), ys new -/
theorem s_ext {l : Addr} {xs ys : List V} (hl : H l = some (.lst xs)) (ha : Ev ta σ H (.ref l)) (h : EvL te σ H ys) (hz : xs.length + ys.length ≤ 100000) (k : ∀ H1, Ex H H1 → D.nx σ (upd H1 l (.lst (xs ++ ys)))) :
    tDrop (tBM K "list" rExtend ta (tCons te tNil)) D σ H := ha H (Ex.refl H) _ fun H1 e1 =>
  ⟨Or.inl ⟨rfl, xs, sq_of (e1 l _ hl)⟩, h H1 e1 _ fun p H2 hp e2 h2 => ⟨l, p, xs, ys, rfl, rfl, e2 l _ (e1 l _ hl), h2, sz_of hz, k H2 (e1.trans e2)⟩⟩
theorem q_ext {l : Addr} {xs ys : List V} (hl : H l = some (.lst xs)) (ha : Ev ta σ H (.ref l)) (h : EvL te σ H ys) (hz : xs.length + ys.length ≤ 100000) (k : ∀ H1, Ex H H1 → tz D σ (upd H1 l (.lst (xs ++ ys)))) :
    tSeq (tDrop (tBM K "list" rExtend ta (tCons te tNil))) tz D σ H := s_ext (D := { D with nx := tz D }) hl ha h hz k
theorem q_forEnC {a : Addr} {xs : List V} {tl : TE} {c : Int} {i j : Nat} (h : Ev tl σ H (.ref a)) (hx : SqL K H a xs) (Pv : Nat → L2.St → Hp → Prop) (h0 : ∀ H1, Ex H H1 → Pv 0 σ H1) (hl : ∀ n σ' H', n ≤ xs.length → Pv n σ' H' → SqL K H' a xs)
    (hs : ∀ n x σ' H', xs[n]? = some x → Pv n σ' H' → ∀ H1, Ex H' H1 → tu { D with nx := Pv (n + 1), ct := Pv (n + 1), bk := tz D } ((σ'.set i (some (.int (c + (n : Nat))))).set j (some x)) H1) (hd : ∀ σ' H', Pv xs.length σ' H' → tz D σ' H') :
    tSeq (tFor (iEnumC K (tCons tl tNil) c) (g2 K i j) tu) tz D σ H := s_forEnC (D := { D with nx := tz D }) h hx Pv h0 hl hs hd

/-! ### more with a well -/
theorem ex_but {p : Addr} {H H1 H2 : Hp} (e : Ex H H1) (n : H p = none) (b : But p H1 H2) : Ex H H2 := fun c o h => b c o (ne_of_none h n) (e c o h)
theorem but_fresh {a p : Addr} {H H1 : Hp} {n : Nat} (b : But a H H1) (w : Well H a n) (w1 : Well H1 a n) (h : H1 p = none) : H p = none := by
  cases q : H p with
  | none => rfl
  | some o =>
    rw [b p o (w1.ne h) q] at h
    cases h
theorem but_free {a p : Addr} {H H1 : Hp} {m : Nat} (b : But a H H1) (w1 : Well H1 a m) (h : H1 p = none) : H p = none := b.free (w1.ne h) h
variable {a : Addr} {d d1 d2 n : Nat} {P P1 P2 : V → Prop} {ti tw : TE} {ts : TS}
theorem ew_min2 {P1 P2 P : Int → Prop} (h1 : EvW a d1 ta σ H (fun v => ∃ r, v = .int r ∧ P1 r)) (h2 : EvW a d2 tb σ H (fun v => ∃ r, v = .int r ∧ P2 r)) (h : ∀ x y, P1 x → P2 y → P (if y < x then y else x)) :
    EvW a (d1 + d2) (tCB (fun xs H Q => ∃ i j, xs = [.int i, .int j] ∧ Q (.int (if j < i then j else i)) H) (tCons ta (tCons tb tNil))) σ H (fun v => ∃ r, v = .int r ∧ P r) := fun n H1 b w l Q q =>
  h1 n H1 b w (by omega) _ fun x H2 b2 w2 ⟨i, ei, pi⟩ => h2 (n + d1) H2 (b.trans b2) w2 (by omega) _ fun y H3 b3 w3 ⟨j, ej, pj⟩ => by
    rw [Nat.add_assoc] at w3
    subst ei ej
    exact ⟨i, j, rfl, q _ H3 (b2.trans b3) w3 ⟨_, rfl, h i j pi pj⟩⟩
theorem sw_forR1 {P : Int → Prop} {j : Nat} (h : EvW a d te σ H (fun v => ∃ r, v = .int r ∧ P r)) (hP : ∀ r, P r → 0 ≤ r ∧ r ≤ 100000) (w : Well H a n) (l : n + d ≤ 2 ^ 50) (Pv : Nat → L2.St → Hp → Prop)
    (h0 : ∀ r H1, P r → But a H H1 → Well H1 a (n + d) → Pv 0 σ H1)
    (hs : ∀ r (i : Nat) σ' H', P r → (i : Int) < r → Pv i σ' H' → tu { D with nx := Pv (i + 1), ct := Pv (i + 1), bk := D.nx } (σ'.set j (some (.int (i : Int)))) H')
    (hd : ∀ r σ' H', P r → Pv r.toNat σ' H' → D.nx σ' H') : tFor (iRng1 (tCons te tNil)) (gName j) tu D σ H :=
  h n H (But.refl a H) w l _ fun v H2 b2 w2 ⟨r, er, pr⟩ => by
    subst er
    obtain ⟨r0, r1⟩ := hP r pr
    refine ⟨r, rfl, by omega, by omega, for_range (lo := 0) (n := r.toNat) Pv (h0 r H2 pr b2 w2) (fun i σ' H' hi p => ?_) (fun σ' H' p => hd r σ' H' pr p)⟩
    have e0 : (0 : Int) + (i : Int) = (i : Int) := Int.zero_add _
    show tu { D with nx := Pv (i + 1), ct := Pv (i + 1), bk := D.nx } (σ'.set j (some (.int ((0 : Int) + (i : Int))))) H'
    rw [e0]
    exact hs r i σ' H' pr (by omega) p
theorem qw_forR1 {P : Int → Prop} {j : Nat} (h : EvW a d te σ H (fun v => ∃ r, v = .int r ∧ P r)) (hP : ∀ r, P r → 0 ≤ r ∧ r ≤ 100000) (w : Well H a n) (l : n + d ≤ 2 ^ 50) (Pv : Nat → L2.St → Hp → Prop)
    (h0 : ∀ r H1, P r → But a H H1 → Well H1 a (n + d) → Pv 0 σ H1)
    (hs : ∀ r (i : Nat) σ' H', P r → (i : Int) < r → Pv i σ' H' → tu { D with nx := Pv (i + 1), ct := Pv (i + 1), bk := tz D } (σ'.set j (some (.int (i : Int)))) H')
    (hd : ∀ r σ' H', P r → Pv r.toNat σ' H' → tz D σ' H') : tSeq (tFor (iRng1 (tCons te tNil)) (gName j) tu) tz D σ H :=
  sw_forR1 (D := { D with nx := tz D }) h hP w l Pv h0 hs hd
/-- if draw.. or pure: .. -/
theorem qw_ifOr {b : Bool} (h : EvW a d te σ H (fun v => ∃ b, v = .bl b)) (hb : ∀ H1, But a H H1 → EvT u σ H1 b) (w : Well H a n) (l : n + d ≤ 2 ^ 50)
    (k1 : ∀ H1, But a H H1 → Well H1 a (n + d) → tu { D with nx := tz D } σ H1) (k2 : b = false → ∀ H1, But a H H1 → Well H1 a (n + d) → ts { D with nx := tz D } σ H1) : tSeq (tIfS (tOr (tTest te) u) tu ts) tz D σ H :=
  h n H (But.refl a H) w l _ fun v H2 b2 w2 ⟨c, e⟩ => ⟨c, e, by
    cases c with
    | true => exact iteT (iteT (k1 H2 b2 w2))
    | false =>
      refine iteF ?_
      refine hb H2 b2 H2 (Ex.refl H2) _ fun H3 e3 => ?_
      cases b with
      | true => exact iteT (k1 H3 (b2.trans (But.ex e3)) (w2.ex e3))
      | false => exact iteF (k2 rfl H3 (b2.trans (But.ex e3)) (w2.ex e3))⟩
theorem cut_take (xs : List V) (m : Nat) : cutV xs none (some (m : Int)) = xs.take m := by
  unfold cutV
  rw [HT.sIx_none, HT.sIx_nat, List.drop_zero, Nat.sub_zero]
  by_cases h : m ≤ xs.length
  · rw [Nat.min_eq_left h]
  · rw [Nat.min_eq_right (by omega), List.take_of_length_le (Nat.le_refl _), List.take_of_length_le (by omega)]
theorem flat_rep (n : Nat) (x : Int) : (List.replicate n [V.int x]).flatten = vi (List.replicate n x) := by
  unfold vi
  rw [List.map_replicate, List.flatten_replicate_singleton]
theorem el_slN {tl th : TO} {xs : List V} {lo hi : Option Int} (h : EvL te σ H xs) (h1 : EvO tl σ H lo) (h2 : EvO th σ H hi) : EvL (tSl (rSlL K) te tl th) σ H (cutV xs lo hi) := fun H1 e _ q =>
  h H1 e _ fun a H2 ha e2 hx => h1 H2 (e.trans e2) _ fun H3 e3 => h2 H3 ((e.trans e2).trans e3) _ fun H4 e4 =>
    ⟨a, xs, rfl, sq_of (e4 _ _ (e3 _ _ hx)), fun p hp => q p _ (fresh_back ((e2.trans e3).trans e4) hp) (((e2.trans e3).trans e4).trans (Ex.new hp)) upd_same⟩
theorem sw_asgL {P : List V → Prop} {i : Nat} (h : EvWL a d te σ H P) (w : Well H a n) (l : n + d ≤ 2 ^ 50) (k : ∀ p xs H1, H p = none → But a H H1 → Well H1 a (n + d) → H1 p = some (.lst xs) → P xs → D.nx (σ.set i (some (.ref p))) H1) : tAsg te (gName i) D σ H :=
  h n H (But.refl a H) w l _ fun p xs H2 hp b2 w2 h2 p => k _ xs H2 hp b2 w2 h2 p
theorem qw_asgL {P : List V → Prop} {i : Nat} (h : EvWL a d te σ H P) (w : Well H a n) (l : n + d ≤ 2 ^ 50) (k : ∀ p xs H1, H p = none → But a H H1 → Well H1 a (n + d) → H1 p = some (.lst xs) → P xs → tz D (σ.set i (some (.ref p))) H1) : tSeq (tAsg te (gName i)) tz D σ H :=
  sw_asgL (D := { D with nx := tz D }) h w l k
/-- x, y = a, b -/
theorem q_parLU {i j : Nat} {xs ys : List V} (h1 : EvL ta σ H xs) (h2 : ∀ p H1, H p = none → Ex H H1 → H1 p = some (.lst xs) → EvU tb σ H1 ys) (k : ∀ p q H1, H p = none → H q = none → p ≠ q → Ex H H1 → H1 p = some (.lst xs) → H1 q = some (.tup ys) → tz D ((σ.set i (some (.ref p))).set j (some (.ref q))) H1) :
    tSeq (tPar i j (tCons ta (tCons tb tNil))) tz D σ H :=
  h1 H (Ex.refl H) _ fun p H2 hp e2 g2 => h2 p H2 hp e2 g2 H2 (Ex.refl H2) _ fun q H3 hq e3 g3 => ⟨_, _, rfl, k p q H3 hp (fresh_back e2 hq) (ne_of_none g2 hq) (e2.trans e3) (e3 _ _ g2) g3⟩
theorem q_parLL {i j : Nat} {xs ys : List V} (h1 : EvL ta σ H xs) (h2 : ∀ p H1, H p = none → Ex H H1 → H1 p = some (.lst xs) → EvL tb σ H1 ys) (k : ∀ p q H1, H p = none → H q = none → p ≠ q → Ex H H1 → H1 p = some (.lst xs) → H1 q = some (.lst ys) → tz D ((σ.set i (some (.ref p))).set j (some (.ref q))) H1) :
    tSeq (tPar i j (tCons ta (tCons tb tNil))) tz D σ H :=
  h1 H (Ex.refl H) _ fun p H2 hp e2 g2 => h2 p H2 hp e2 g2 H2 (Ex.refl H2) _ fun q H3 hq e3 g3 => ⟨_, _, rfl, k p q H3 hp (fresh_back e2 hq) (ne_of_none g2 hq) (e2.trans e3) (e3 _ _ g2) g3⟩
theorem q_parVV {i j : Nat} {x y : V} (h1 : Ev ta σ H x) (h2 : Ev tb σ H y) (k : ∀ H1, Ex H H1 → tz D ((σ.set i (some x)).set j (some y)) H1) :
    tSeq (tPar i j (tCons ta (tCons tb tNil))) tz D σ H :=
  h1 H (Ex.refl H) _ fun H2 e2 => h2 H2 e2 _ fun H3 e3 => ⟨_, _, rfl, k H3 (e2.trans e3)⟩
theorem q_parLV {i j : Nat} {xs : List V} {y : V} (h1 : EvL ta σ H xs) (h2 : ∀ p H1, H p = none → Ex H H1 → H1 p = some (.lst xs) → Ev tb σ H1 y) (k : ∀ p H1, H p = none → Ex H H1 → H1 p = some (.lst xs) → tz D ((σ.set i (some (.ref p))).set j (some y)) H1) :
    tSeq (tPar i j (tCons ta (tCons tb tNil))) tz D σ H :=
  h1 H (Ex.refl H) _ fun p H2 hp e2 g2 => h2 p H2 hp e2 g2 H2 (Ex.refl H2) _ fun H3 e3 => ⟨_, _, rfl, k p H3 hp (e2.trans e3) (e3 _ _ g2)⟩
theorem q_parVL {i j : Nat} {xs : List V} {y : V} (h1 : Ev ta σ H y) (h2 : EvL tb σ H xs) (k : ∀ p H1, H p = none → Ex H H1 → H1 p = some (.lst xs) → tz D ((σ.set i (some y)).set j (some (.ref p))) H1) :
    tSeq (tPar i j (tCons ta (tCons tb tNil))) tz D σ H :=
  h1 H (Ex.refl H) _ fun H2 e2 => h2 H2 e2 _ fun p H3 hp e3 g3 => ⟨_, _, rfl, k p H3 (fresh_back e2 hp) (e2.trans e3) g3⟩
end
end Bk
/-! ### sorted of a tuple of ints -/
namespace Bk
open PySem PySem.Spec PyProof.Rows L2 Evl
section
variable {prog : Program} {w : World} {A : Around} {E : Value → Shared → Prop} {s : Shared}
theorem collect_tup {l : Addr} {vs : List Value} {Q : List Value → Shared → Prop} (ht : IsTup s.heap l vs.toArray) (hz : vs.length ≤ sizeLine)
    (h : Q vs { s with heap := (s.heap.push (seqObj "list" #[] 0)).update s.heap.objs.size (Obj.mapSeq (· ++ vs.toArray)) }) : wpAny (model prog w) A (collect (.ref l)) Q E s := by
  obtain ⟨o, ho, hc, n, hd⟩ := ht
  unfold collect
  refine wpAny_bind (wpAny_runValue (codeAny_builtin entry_proto_collect' ?_))
  show wpAny _ _ (newList [] >>= fun r => again (.builtin "list.__iadd__" ⟨[r, .ref l], []⟩)) _ _ s
  refine wpAny_bind (wpAny_newList (wpAny_pure ⟨Code.quiet_builtin _ (by decide +kernel), codeAny_builtin entry_list_iadd' ?_⟩))
  show wpAny _ _ (Builtin.List.listExtendWith (.ref s.heap.objs.size) (.ref l) (.ref s.heap.objs.size)) _ _ { s with heap := s.heap.push (seqObj "list" #[] 0) }
  unfold Builtin.List.listExtendWith
  have ho1 : (s.heap.push (seqObj "list" #[] 0)).get? l = some o := Heap.get?_push_of_some _ ho
  refine wpAny_bind (wpAny_typeOf (T := "tuple") ⟨o, ho1, hc⟩ ?_)
  have e1 : (Value.type "tuple" == Value.type "tuple") = true := by rfl
  rw [if_pos (by rw [e1]; simp)]
  refine wpAny_bind (listItems_at ho1 hd ?_)
  refine wpAny_bind (listItems_at (xs := #[]) (n := 0) (Heap.get?_push_size _ rfl) rfl ?_)
  rw [if_neg (by simp)]
  refine wpAny_bind (listUpdate_at (xs := #[]) (n := 0) (Heap.get?_push_size _ rfl) rfl ?_ (Nat.zero_le _) (by
    show (#[] ++ vs.toArray).size ≤ sizeLine + 1
    simp only [Array.size_append, List.size_toArray, List.length_nil]
    omega))
  refine wpAny_pure ?_
  refine wpAny_bind (wpAny_load (get?_update_seq (Heap.get?_push_size _ rfl) _) ?_)
  have e2 : ((#[] : Array Value) ++ vs.toArray).toList = vs := by simp
  show wpAny _ _ (pure ((#[] : Array Value) ++ vs.toArray).toList) Q E _
  rw [e2]
  exact wpAny_pure h
/-- behind the collecting: the new list is sorted -/
theorem sorted_tup {l : Addr} {vs : List Value} {ns : List Int} {Q : Value → Shared → Prop} (ht : IsTup s.heap l vs.toArray) (hz : vs.length ≤ sizeLine) (hI : IntsAre vs ns)
    (h : ∀ out : List Value, IntsAre out (out.map SrtO.iv) → (out.map SrtO.iv).Perm ns → (out.map SrtO.iv).Pairwise (· ≤ ·) → Q (.ref (s.heap.objs.size + 1)) { s with heap := sortedAll s.heap vs out.toArray }) :
    wpAny (model prog w) A (call (.builtin "sorted") [.ref l]) Q E s := by
  refine Calls.call_function_entry kind_sorted plain_sorted entry_sorted (args_sorted1 _) ?_
  unfold Builtin.«sorted»
  refine wpAny_bind (m := checkCount "sorted" 1 1 _) (wpAny_pure ?_)
  refine wpAny_bind (collect_tup ht hz ?_)
  refine wpAny_bind (wpAny_newList ?_ hz)
  have es : ((s.heap.push (seqObj "list" #[] 0)).update s.heap.objs.size (Obj.mapSeq (· ++ vs.toArray))).objs.size = s.heap.objs.size + 1 := by
    rw [Heap.size_update, size_push']
  have at1 : (((s.heap.push (seqObj "list" #[] 0)).update s.heap.objs.size (Obj.mapSeq (· ++ vs.toArray))).push (seqObj "list" vs.toArray 0)).get? (s.heap.objs.size + 1) = some (seqObj "list" vs.toArray 0) := by
    rw [← es]
    exact Heap.get?_push_size _ rfl
  show wpAny _ _ _ _ _ { s with heap := ((s.heap.push (seqObj "list" #[] 0)).update s.heap.objs.size (Obj.mapSeq (· ++ vs.toArray))).push (seqObj "list" vs.toArray 0) }
  rw [es]
  refine wpAny_bind (wpAny_holding (wpAny_call_entry slot_list_sort ⟨_, at1, rfl⟩ entry_list_sort (SrtO.list_sort_ord SrtO.swo_int at1 hz (fun h2 => SrtO.ints_sortable hI h2) fun out hs hb => ⟨_, rfl, ?_⟩) (args_list_sort _)))
  obtain ⟨k1, k2, k3⟩ := SrtO.ints_out hI hs hb
  exact wpAny_pure ⟨_, rfl, h out k1 k2 k3⟩
end
def rSortedT (K : PySem.W.Frag) : List V → Hp → VK → Prop := fun vs H Q => ∃ (a : Addr) (ns : List Int), vs = [V.ref a] ∧ SqT K H a (vi ns) ∧
  ∀ (ns' : List Int) (p : Addr), ns'.Perm ns → ns'.Pairwise (· ≤ ·) → H p = none → Q (.ref p) (upd H p (.lst (vi ns')))
theorem cr_sortedTup {X : Cx} : CallR X (.builtin "sorted") (rSortedT X.K) := by
  intro pins s σ H vs us Q I r h
  obtain ⟨a, ns, rfl, hs, q⟩ := h
  obtain ⟨its, rv, ht, hz⟩ := I.tuple hs
  rw [Vals.ref1 r]
  have hi := rv.ints
  refine sorted_tup ht (by rw [← rv.length]; exact hz) hi ?_
  intro out k1 k2 k3
  obtain ⟨ep, he'⟩ := PyProof.Rows.sortedAll_at s.heap its out.toArray
  have hlen : (vi (out.map SrtO.iv)).length ≤ sizeLine := by
    rw [List.length_map] at hz
    rw [List.length_map, k2.length_eq]
    exact hz
  exact ⟨.ref _, upd H (s.heap.objs.size + 1) (.lst (vi (out.map SrtO.iv))), I.laid (t' := s.toks) (fun _ _ => PyProof.Rows.sortedAll_old) (Nat.le_succ _) ⟨hlen, out, ep, vals_of_ints k1, he'⟩, rfl, q _ _ k2 k3 (I.hok.fresh (Nat.le_succ _))⟩

/-- the one sorted list -/
theorem sorted_unique {ns ms : List Int} (hp : ns.Perm ms) (h1 : ns.Pairwise (· ≤ ·)) (h2 : ms.Pairwise (· ≤ ·)) : ns = ms := by
  induction ns generalizing ms with
  | nil => exact (List.nil_perm.mp hp).symm
  | cons a r ih =>
    cases ms with
    | nil => exact absurd hp.length_eq (by simp)
    | cons b q =>
      have ha := List.pairwise_cons.mp h1
      have hb := List.pairwise_cons.mp h2
      have e : a = b := by
        have m1 : a ∈ b :: q := hp.mem_iff.mp List.mem_cons_self
        have m2 : b ∈ a :: r := hp.mem_iff.mpr List.mem_cons_self
        have l1 : b ≤ a := by
          rcases List.mem_cons.mp m1 with z | z
          · omega
          · exact hb.1 a z
        have l2 : a ≤ b := by
          rcases List.mem_cons.mp m2 with z | z
          · omega
          · exact ha.1 b z
        omega
      subst e
      rw [ih (List.Perm.cons_inv hp) ha.2 hb.2]

section
variable {K : PySem.W.Frag} {σ : L2.St} {H H' : Hp} {ta tb te tl : TE} {t u : TT} {x y z v : V} {D : Ends} {tu tz : TS}
theorem el_sortedT {p : Addr} {ns ms : List Int} (ha : Ev ta σ H (.ref p)) (h : SqT K H p (vi ns)) (hp : ns.Perm ms) (hm : ms.Pairwise (· ≤ ·)) : EvL (tCB (rSortedT K) (tCons ta tNil)) σ H (vi ms) := fun H1 e Q q =>
  ha H1 e _ fun H2 e2 => ⟨p, ns, rfl, ex_t (e.trans e2) h, fun ns' l k1 k2 hl => by
    rw [sorted_unique (k1.trans hp) k2 hm]
    exact q l _ (fresh_back e2 hl) (e2.trans (Ex.new hl)) upd_same⟩
theorem el_sortedN {ns ms : List Int} (ha : EvL ta σ H (vi ns)) (hp : ns.Perm ms) (hm : ms.Pairwise (· ≤ ·)) : EvL (tCB (rSortedI K) (tCons ta tNil)) σ H (vi ms) := fun H1 e Q q =>
  ha H1 e _ fun p H2 hp2 e2 h2 => ⟨p, ns, rfl, sq_of h2, fun ns' l k1 k2 hl => by
    rw [sorted_unique (k1.trans hp) k2 hm]
    exact q l _ (fresh_back e2 hl) (e2.trans (Ex.new hl)) upd_same⟩
/-- all(..) of a new list of truths -/
theorem ev_allN {bs : List Bool} (ha : EvL ta σ H (bs.map V.bl)) : Ev (tCB (rAll K) (tCons ta tNil)) σ H (.bl (bs.all id)) := fun H1 e Q q =>
  ha H1 e _ fun p H2 hp2 e2 h2 => ⟨p, bs, rfl, sq_of h2, q H2 e2⟩
/-- a comprehension over a tuple -/
theorem el_lcT {a : Addr} {xs : List V} {j : Nat} {vs : List Nat} (f : Nat → Bool) (v : Nat → V) (h : Ev tl σ H (.ref a)) (hx : SqT K H a xs) (hz : xs.length ≤ 40000) (hw : ∀ x, wipe ((wipe σ vs).set j (some x)) vs = wipe σ vs)
    (ht : ∀ (i : Nat) (x : V) H1, Ex H H1 → xs[i]? = some x → EvT t ((wipe σ vs).set j (some x)) H1 (f i)) (he : ∀ (i : Nat) (x : V) H1, Ex H H1 → xs[i]? = some x → f i = true → Ev te ((wipe σ vs).set j (some x)) H1 (v i)) :
    EvL (tLc (iTup K tl) (gName j) t te vs) σ H (given xs.length f v) := fun H0 e Q q => h H0 e _ fun H1 e1 => ⟨a, rfl, ⟨xs, ex_t (e.trans e1) hx⟩, fun Dl hD =>
  lc_tup (xs := xs) (Cw H1 f v Dl) ⟨hD, Ex.new hD, upd_same⟩ (fun i H' _ p => ex_t ((e.trans e1).trans p.2.1) hx) (fun i x H' hi p => ⟨hw x, cw_turn p (by have := (List.getElem?_eq_some_iff.mp hi).1; omega) (ht i x H1 (e.trans e1) hi) (fun hf => he i x H1 (e.trans e1) hi hf)⟩)
    (fun H' p => q Dl H' (fresh_back e1 p.1) (e1.trans p.2.1) p.2.2)⟩
theorem rv_neLN {p q : Addr} {ns ms : List Int} (h : H p = some (.lst (vi ns))) (h' : H q = some (.lst (vi ms))) : RV (rNeD K) (.ref p) (.ref q) H (.bl (!decide (ns = ms))) := rv_neL (sq_of h) (sq_of h')
/-- both operands new -/
theorem ev_neLL {ns ms : List Int} (ha : EvL ta σ H (vi ns)) (hb : EvL tb σ H (vi ms)) : Ev (tOp (rNeD K) ta tb) σ H (.bl (!decide (ns = ms))) :=
  ev_opLL ha hb fun p q H1 hp hq _ => rv_neLN hp hq
theorem ev_eqLL {ns ms : List Int} (ha : EvL ta σ H (vi ns)) (hb : EvL tb σ H (vi ms)) : Ev (tOp (rEqD K) ta tb) σ H (.bl (decide (ns = ms))) :=
  ev_opLL ha hb fun p q H1 hp hq _ => rv_eqL (sq_of hp) (sq_of hq)
/-! shuffles -/
def iota (n : Nat) : List Int := (List.range n).map fun i : Nat => (i : Int)
theorem iota_length (n : Nat) : (iota n).length = n := by simp [iota]
theorem iota_sorted (n : Nat) : (iota n).Pairwise (· ≤ ·) := by
  unfold iota
  rw [List.pairwise_map]
  exact (List.pairwise_lt_range (n := n)).imp fun h => by omega
theorem rgV_iota (n : Nat) : rgV 0 (n : Int) = vi (iota n) := by
  unfold rgV iota vi
  rw [List.map_map]
  have e : ((n : Int) - 0).toNat = n := by omega
  rw [e]
  refine List.map_congr_left fun i _ => ?_
  show V.int (0 + (i : Int)) = V.int (i : Int)
  rw [Int.zero_add]
def Shf (ns : List Int) : Prop := 0 < ns.length ∧ ns.length ≤ 300 ∧ ns.Perm (iota ns.length)
theorem Shf.mem {ns : List Int} (h : Shf ns) {n : Int} (m : n ∈ ns) : 0 ≤ n ∧ n < ns.length := by
  have := h.2.2.mem_iff.mp m
  obtain ⟨i, hi, rfl⟩ := List.mem_map.mp this
  have := List.mem_range.mp hi
  omega
theorem Shf.nodup {ns : List Int} (h : Shf ns) : ns.Nodup := by
  refine h.2.2.symm.nodup ?_
  unfold iota
  show List.Pairwise _ _
  rw [List.pairwise_map]
  exact (List.nodup_range (n := ns.length)).imp fun h e => h (by omega)
theorem Shf.wide {ns : List Int} (h : Shf ns) : wide 1900 ns := (wide_lt (k := 20) (by decide) fun n m => by
  have := h.mem m
  have := h.2.1
  omega).mono (by decide)

theorem vi_erase (ns : List Int) (k : Nat) : (vi ns).eraseIdx k = vi (ns.eraseIdx k) := by
  unfold vi
  induction ns generalizing k with
  | nil => rfl
  | cons a r ih =>
    cases k with
    | zero => rfl
    | succ k =>
      show V.int a :: (r.map V.int).eraseIdx k = V.int a :: (r.eraseIdx k).map V.int
      rw [ih]
theorem vi_set (ns : List Int) (k : Nat) (x : Int) : (vi ns).set k (.int x) = vi (ns.set k x) := by
  unfold vi
  rw [List.map_set]
theorem vi_app (ns ms : List Int) : vi ns ++ vi ms = vi (ns ++ ms) := by
  unfold vi
  rw [List.map_append]
/-- a new tuple, with draws -/
def EvWU (a : Addr) (d : Nat) (te : TE) (σ : L2.St) (H : Hp) (P : List V → Prop) : Prop := ∀ (n : Nat) (H1 : Hp), But a H H1 → Well H1 a n → n + d ≤ 2 ^ 50 → ∀ Q : VK, (∀ p xs H2, H1 p = none → But a H1 H2 → Well H2 a (n + d) → H2 p = some (.tup xs) → P xs → Q (.ref p) H2) → te σ H1 Q
variable {a : Addr} {d d1 d2 n : Nat} {P P1 : List V → Prop}
theorem sw_asgU {i : Nat} (h : EvWU a d te σ H P) (w : Well H a n) (l : n + d ≤ 2 ^ 50) (k : ∀ p xs H1, H p = none → But a H H1 → Well H1 a (n + d) → H1 p = some (.tup xs) → P xs → D.nx (σ.set i (some (.ref p))) H1) : tAsg te (gName i) D σ H :=
  h n H (But.refl a H) w l _ fun p xs H2 hp b2 w2 h2 p => k _ xs H2 hp b2 w2 h2 p
theorem qw_asgU {i : Nat} (h : EvWU a d te σ H P) (w : Well H a n) (l : n + d ≤ 2 ^ 50) (k : ∀ p xs H1, H p = none → But a H H1 → Well H1 a (n + d) → H1 p = some (.tup xs) → P xs → tz D (σ.set i (some (.ref p))) H1) : tSeq (tAsg te (gName i)) tz D σ H :=
  sw_asgU (D := { D with nx := tz D }) h w l k
theorem sw_retU (h : EvWU a d te σ H P) (w : Well H a n) (l : n + d ≤ 2 ^ 50) (k : ∀ p xs H1, H p = none → But a H H1 → Well H1 a (n + d) → H1 p = some (.tup xs) → P xs → D.rt (.ref p) H1) : tRet te D σ H :=
  h n H (But.refl a H) w l _ fun p xs H2 hp b2 w2 h2 p => k _ xs H2 hp b2 w2 h2 p
/-! ### [e for x in xs for y in ys] of tuples -/
def flat2 (n m : Nat) (v : Nat → Nat → V) : List V := (List.range n).flatMap fun i => (List.range m).map (v i)
theorem flat2_succ (n m : Nat) (v : Nat → Nat → V) : flat2 (n + 1) m v = flat2 n m v ++ (List.range m).map (v n) := by
  unfold flat2
  rw [List.range_succ, List.flatMap_append, List.flatMap_singleton]
theorem flat2_length (n m : Nat) (v : Nat → Nat → V) : (flat2 n m v).length = n * m := by
  induction n with
  | zero => simp [flat2]
  | succ n ih => rw [flat2_succ, List.length_append, ih, List.length_map, List.length_range, Nat.succ_mul]
theorem yes_go {A B : Hp → Prop} (h : A H) : tYes σ H (fun b H3 => if b = true then A H3 else B H3) := by
  show (if true = true then A H else B H)
  rw [if_pos rfl]
  exact h
theorem el_lc2T {ti1 : TE} {b1 b2 : Addr} {xs ys : List V} {i j : Nat} {vs vs1 : List Nat} (v : Nat → Nat → V) (h : Ev tl σ H (.ref b1)) (hx : SqT K H b1 xs) (hy : SqT K H b2 ys)
    (h1 : ∀ x H1, Ex H H1 → Ev ti1 ((wipe σ vs).set i (some x)) H1 (.ref b2)) (hz : xs.length * ys.length ≤ 40000)
    (hw : ∀ x, wipe ((wipe σ vs).set i (some x)) vs = wipe σ vs) (hw1 : ∀ x y, wipe ((wipe ((wipe σ vs).set i (some x)) vs1).set j (some y)) vs1 = wipe ((wipe σ vs).set i (some x)) vs1)
    (he : ∀ (n m : Nat) (x y : V) H1, Ex H H1 → xs[n]? = some x → ys[m]? = some y → Ev te ((wipe ((wipe σ vs).set i (some x)) vs1).set j (some y)) H1 (v n m)) :
    EvL (tLc2 (iTup K tl) (gName i) tYes (iTup K ti1) (gName j) tYes te vs vs1) σ H (flat2 xs.length ys.length v) := fun H0 e Q q => h H0 e _ fun H1 e1 => by
  have e01 := e.trans e1
  refine ⟨b1, rfl, ⟨xs, ex_t e01 hx⟩, fun Dl hD => ?_⟩
  refine ⟨fun n m H => m = xs.length - n ∧ n ≤ xs.length ∧ Ex H1 H ∧ H Dl = some (.lst (flat2 n ys.length v)), ⟨xs.length, by simp, Nat.zero_le _, Ex.new hD, upd_same⟩, ?_⟩
  rintro n m H ⟨rfl, hn, e2, hd⟩
  have qx := ex_t (e01.trans e2) hx
  by_cases hlt : n < xs.length
  · refine .inr ⟨⟨xs, xs[n], qx, by simp [hlt]⟩, fun H' => Ex H1 H' ∧ H' Dl = some (.lst (flat2 (n + 1) ys.length v)), fun H' p' => ⟨xs.length - (n + 1), by omega, rfl, hlt, p'⟩, ?_⟩
    rintro x H' ⟨rfl, gx⟩
    have hxn := gx xs qx
    refine ⟨hw x, yes_go ?_⟩
    refine h1 x H' (e01.trans e2) H' (Ex.refl H') _ fun H4 e4 => ⟨b2, rfl, ⟨ys, ex_t ((e01.trans e2).trans e4) hy⟩, ?_⟩
    refine ⟨fun k m H => m = ys.length - k ∧ k ≤ ys.length ∧ Ex H1 H ∧ H Dl = some (.lst (flat2 n ys.length v ++ (List.range k).map (v n))), ⟨ys.length, by simp, Nat.zero_le _, e2.trans e4, by rw [e4 _ _ hd]; simp⟩, ?_⟩
    rintro k m H ⟨rfl, hk, e5, hd5⟩
    have qy := ex_t (e01.trans e5) hy
    by_cases hlk : k < ys.length
    · refine .inr ⟨⟨ys, ys[k], qy, by simp [hlk]⟩, fun H' => Ex H1 H' ∧ H' Dl = some (.lst (flat2 n ys.length v ++ (List.range (k + 1)).map (v n))), fun H' p' => ⟨ys.length - (k + 1), by omega, rfl, hlk, p'⟩, ?_⟩
      rintro y H' ⟨rfl, gy⟩
      refine ⟨hw1 x y, yes_go ?_⟩
      refine he n k x y H' (e01.trans e5) hxn (gy ys qy) H' (Ex.refl H') _ fun H6 e6 => ⟨_, e6 _ _ hd5, sz_lt ?_, Ex.mut (e5.trans e6) hD, ?_⟩
      · rw [List.length_append, flat2_length, List.length_map, List.length_range]
        have a1 : (n + 1) * ys.length ≤ xs.length * ys.length := Nat.mul_le_mul_right _ hlt
        rw [Nat.succ_mul] at a1
        omega
      · rw [upd_same, List.range_succ, List.map_append, List.append_assoc]
        rfl
    · have ek : k = ys.length := by omega
      subst ek
      refine .inl ⟨⟨ys, qy, Nat.le_refl _⟩, e5, ?_⟩
      rw [hd5, flat2_succ]
  · have en : n = xs.length := by omega
    subst en
    exact .inl ⟨⟨xs, qx, Nat.le_refl _⟩, q Dl H (fresh_back e1 hD) (e1.trans e2) hd⟩
/-- a new tuple as an argument -/
theorem eu_callU1 {sp : Sp} {xs zs : List V} {E : XK} (h : EvU ta σ H xs) (h2 : ∀ p H1, Ex H H1 → H1 p = some (.tup xs) → Ev tb σ H1 y) (hs : ∀ p H1, Ex H H1 → H1 p = some (.tup xs) → SpU sp [.ref p, y] H1 zs) : EvU (tCall sp [] E (tCons ta (tCons tb tNil))) σ H zs := fun H1 e Q q =>
  h H1 e _ fun p H2 hp e2 g2 => h2 p H2 (e.trans e2) g2 H2 (Ex.refl H2) _ fun H3 e3 => hs p H3 ((e.trans e2).trans e3) (e3 _ _ g2) H3 (Ex.refl H3) Q (fun r H4 hr e4 h4 => q r H4 (fresh_back (e2.trans e3) hr) ((e2.trans e3).trans e4) h4) E
theorem eu_callU2 {sp : Sp} {xs zs : List V} {E : XK} (h : Ev ta σ H x) (h2 : EvU tb σ H xs) (hs : ∀ p H1, Ex H H1 → H1 p = some (.tup xs) → SpU sp [x, .ref p] H1 zs) : EvU (tCall sp [] E (tCons ta (tCons tb tNil))) σ H zs := fun H1 e Q q =>
  h H1 e _ fun H2 e2 => h2 H2 (e.trans e2) _ fun p H3 hp e3 g3 => hs p H3 ((e.trans e2).trans e3) g3 H3 (Ex.refl H3) Q (fun r H4 hr e4 h4 => q r H4 (fresh_back (e2.trans e3) hr) ((e2.trans e3).trans e4) h4) E
end
end Bk
namespace Bk
open PySem PySem.Spec PyProof.Rows L2 Evl
/-! ### where built-in names stand; rules with the written part named -/
theorem bt_len : bootBuiltins "len" = some (.builtin "len") := by decide +kernel
theorem bt_abs : bootBuiltins "abs" = some (.builtin "abs") := by decide +kernel
theorem bt_max : bootBuiltins "max" = some (.builtin "max") := by decide +kernel
theorem bt_min : bootBuiltins "min" = some (.builtin "min") := by decide +kernel
theorem bt_sum : bootBuiltins "sum" = some (.builtin "sum") := by decide +kernel
theorem bt_sorted : bootBuiltins "sorted" = some (.builtin "sorted") := by decide +kernel
theorem bt_all : bootBuiltins "all" = some (.builtin "all") := by decide +kernel
theorem bt_any : bootBuiltins "any" = some (.builtin "any") := by decide +kernel
theorem bt_repr : bootBuiltins "repr" = some (.builtin "repr") := by decide +kernel
theorem bt_isinstance : bootBuiltins "isinstance" = some (.builtin "isinstance") := by decide +kernel
theorem bt_str : bootBuiltins "str" = some (.type "str") := by decide +kernel
section
variable {X : Cx} {K : PySem.W.Frag}
theorem call_lenK (h : X.K = K) : CallR X (.builtin "len") (rLenS K) := by
  subst h
  exact call_len_seq
theorem cr_sumK (h : X.K = K) (hc : X.calm = true) : CallR X (.builtin "sum") (rSum K) := by
  subst h
  exact cr_sum hc
theorem cr_allK (h : X.K = K) (hc : X.calm = true) : CallR X (.builtin "all") (rAll K) := by
  subst h
  exact cr_all hc
theorem call_listK (h : X.K = K) : CallR X (.type "list") (fun xs H Q => ∃ p ys, xs = [.ref p] ∧ (SqL K H p ys ∨ SqT K H p ys) ∧ ∀ l, H l = none → Q (.ref l) (upd H l (.lst ys))) := by
  subst h
  exact call_list_of
theorem call_tupleK (h : X.K = K) : CallR X (.type "tuple") (rTupOf K) := by
  subst h
  exact call_tuple_of
theorem call_reprK (h : X.K = K) (hg : X.A.guards = some []) (hu : X.A.units + 64 < cLine) : CallR X (.builtin "repr") (rRepr K) := by
  subst h
  exact call_repr hg hu
theorem call_isiK' (h : X.K = K) : CallR X (.builtin "isinstance") (rIsi K) := by
  subst h
  exact call_isi
theorem ix_listK (h : X.K = K) : IxR X (rIxL K) := by
  subst h
  exact ix_list
theorem ix_tupK (h : X.K = K) : IxR X (rIxT K) := by
  subst h
  exact ix_tup
theorem sl_listK (h : X.K = K) : SlR X (rSlL K) := by
  subst h
  exact sl_list
theorem op_eqDK (h : X.K = K) (hu : X.A.units + 64 < cLine) : OpR X (compareOp .Eq) (rEqD K) := by
  subst h
  exact op_eqD hu
theorem op_neDK (h : X.K = K) (hu : X.A.units + 64 < cLine) : OpR X (compareOp .NotEq) (rNeD K) := by
  subst h
  exact op_neD hu
theorem pi_listK {tg e : Expr} {te : TE} (h : X.K = K) (he : PE X e te) : PI X tg e (iList K te) := by
  subst h
  exact pi_list he
theorem pi_tupK {tg e : Expr} {te : TE} (h : X.K = K) (he : PE X e te) : PI X tg e (iTup K te) := by
  subst h
  exact pi_tup he
end
end Bk
namespace Bk
open PySem PySem.Spec PyProof.Rows L2 Evl
/-! ### a list of the numbers below its length, each once -/
theorem len_le {n : Nat} : ∀ {l : List Int}, l.Nodup → (∀ x ∈ l, 0 ≤ x ∧ x < n) → l.length ≤ n := by
  induction n with
  | zero =>
    intro l _ h
    cases l with
    | nil => exact Nat.le_refl _
    | cons a r =>
      have := h a List.mem_cons_self
      omega
  | succ n ih =>
    intro l hn h
    have h1 := ih (l := l.erase (n : Int)) (hn.erase _) fun x hx => by
      have m := hn.mem_erase_iff.mp hx
      have := h x m.2
      have := m.1
      omega
    rw [List.length_erase] at h1
    split at h1 <;> omega
theorem perm_iota {n : Nat} : ∀ {l : List Int}, l.Nodup → (∀ x ∈ l, 0 ≤ x ∧ x < n) → l.length = n → l.Perm (iota n) := by
  induction n with
  | zero =>
    intro l _ _ hl
    have : l = [] := List.length_eq_zero_iff.mp hl
    subst this
    exact List.Perm.refl _
  | succ n ih =>
    intro l hn h hl
    have hm : (n : Int) ∈ l := by
      refine Classical.byContradiction fun c => ?_
      have := len_le (n := n) hn fun x hx => by
        have := h x hx
        have : x ≠ (n : Int) := fun e => c (e ▸ hx)
        omega
      omega
    have p := List.perm_cons_erase hm
    have h1 := ih (l := l.erase (n : Int)) (hn.erase _) (fun x hx => by
      have m := hn.mem_erase_iff.mp hx
      have := h x m.2
      have := m.1
      omega) (by
      have := p.length_eq
      rw [List.length_cons] at this
      omega)
    have e : iota (n + 1) = iota n ++ [(n : Int)] := by
      unfold iota
      rw [List.range_succ, List.map_append]
      rfl
    rw [e]
    exact p.trans ((List.Perm.cons _ h1).trans (List.perm_append_comm (l₁ := [(n : Int)]) (l₂ := iota n)))
section
variable {K : PySem.W.Frag} {σ : L2.St} {H H' : Hp} {ta tb te tl ti : TE} {t u : TT} {x y z v : V} {D : Ends} {tu tz : TS} {a : Addr} {d d1 d2 n : Nat} {P P1 P2 : V → Prop}
/-- t + u of tuples -/
theorem eu_catT {p : Addr} {xs ys : List V} (ha : Ev ta σ H (.ref p)) (hb : EvU tb σ H ys) (h : SqT K H p xs) (h0 : xs ≠ []) (h1 : ys ≠ []) (hz : xs.length + ys.length ≤ 100000) : EvU (tOp (rCatT K) ta tb) σ H (xs ++ ys) := fun H1 e Q k =>
  ha H1 e _ fun H2 e2 => hb H2 (e.trans e2) _ fun r H3 hr e3 h3 => ⟨p, r, xs, ys, rfl, rfl, ex_t ((e.trans e2).trans e3) h, st_of h3, h0, sz_of hz, fun c => (h1 c).elim, fun _ l hl => k l _ (fresh_back (e2.trans e3) hl) ((e2.trans e3).trans (Ex.new hl)) upd_same⟩
theorem op_catTK {X : Cx} (h : X.K = K) : OpR X (binaryOp .Add) (rCatT K) := by
  subst h
  exact op_catT
/-! arguments with draws -/
def EvWA (a : Addr) (d : Nat) (te : TA) (σ : L2.St) (H : Hp) (P : List V → Prop) : Prop := ∀ (n : Nat) (H1 : Hp), But a H H1 → Well H1 a n → n + d ≤ 2 ^ 50 → ∀ Q : List V → Hp → Prop, (∀ vs H2, But a H1 H2 → Well H2 a (n + d) → P vs → Q vs H2) → te σ H1 Q
theorem ewa_nil : EvWA a 0 tNil σ H (fun vs => vs = []) := fun n H1 b w l Q q => q [] H1 (But.refl a H1) w rfl
theorem ewa_cons {tr : TA} {PL : List V → Prop} (h : EvW a d1 te σ H P) (hr : EvWA a d2 tr σ H PL) : EvWA a (d1 + d2) (tCons te tr) σ H (fun vs => ∃ x xs, vs = x :: xs ∧ P x ∧ PL xs) := fun n H1 b w l Q q =>
  h n H1 b w (by omega) _ fun x H2 b2 w2 px => hr (n + d1) H2 (b.trans b2) w2 (by omega) _ fun xs H3 b3 w3 pl => q _ H3 (b2.trans b3) (by
    rw [← Nat.add_assoc]
    exact w3) ⟨x, xs, rfl, px, pl⟩
theorem ewl_lst {t : TA} {PL : List V → Prop} (h : EvWA a d t σ H PL) (hz : ∀ xs, PL xs → xs.length ≤ 100000) : EvWL a d (tLst t) σ H PL := fun n H1 b w l Q q =>
  h n H1 b w l _ fun xs H2 b2 w2 pl => ⟨sz_of (hz xs pl), fun p hp => q p xs _ (but_free b2 w2 hp) (b2.trans (But.new hp)) (w2.ex (Ex.new hp)) upd_same pl⟩
theorem ew_ixW {PL : List V → Prop} (hl : EvWL a d1 tl σ H PL) (hi : EvW a d2 ti σ H P) (hP : ∀ xs v, PL xs → P v → ∃ (i : Int) (x : V), v = .int i ∧ atI xs i = some x ∧ P1 x) : EvW a (d1 + d2) (tOp (rIxL K) tl ti) σ H P1 := fun n H1 b w l Q q =>
  hl n H1 b w (by omega) _ fun p xs H2 hp b2 w2 h2 px => hi (n + d1) H2 (b.trans b2) w2 (by omega) _ fun v H3 b3 w3 pv => by
    obtain ⟨i, x, rfl, hx, px'⟩ := hP xs v px pv
    rw [Nat.add_assoc] at w3
    exact ⟨p, xs, i, x, rfl, rfl, sq_of (b3 p _ (w.ne hp) h2), hx, q x H3 (b2.trans b3) w3 px'⟩
theorem ew_weak (h : EvW a d te σ H P) (l : d ≤ d1) : EvW a d1 te σ H P := fun n H1 b w hl Q q => h n H1 b w (by omega) Q fun v H2 b2 w2 p => q v H2 b2 (w2.mono (by omega)) p
theorem ew_if {b : Bool} (ht : EvT t σ (hid a H) b) (h1 : b = true → EvW a d ta σ H P) (h2 : b = false → EvW a d tb σ H P) : EvW a d (tIf t ta tb) σ H P := fun n H1 bt w l Q q =>
  ht H1 (ex_hid bt) _ fun H2 e2 => by
    have q' : ∀ v H3, But a H2 H3 → Well H3 a (n + d) → P v → Q v H3 := fun v H3 b3 w3 p => q v H3 ((But.ex e2).trans b3) w3 p
    cases b with
    | true => exact iteT (h1 rfl n H2 (bt.trans (But.ex e2)) (w.ex e2) l Q q')
    | false => exact iteF (h2 rfl n H2 (bt.trans (But.ex e2)) (w.ex e2) l Q q')
/-! range(a, b, c) upwards -/
theorem RgC.up {j c : Int} (h0 : 0 ≤ j) (h1 : j ≤ 100000) (c0 : 0 < c) (c1 : c ≤ 100000) : ∃ n : Nat, RgC 0 j c n ∧ ∀ k : Nat, k < n → (k : Int) * c < j := by
  have hs : Builtin.Range.rangeSize 0 j c = (if 0 < j then (j - 0 - 1) / c + 1 else 0) := by
    unfold Builtin.Range.rangeSize
    rw [if_pos c0]
  have hd0 : 0 < j → 0 ≤ (j - 0 - 1) / c := fun h => Int.ediv_nonneg (by omega) (by omega)
  have hd1 : 0 < j → (j - 0 - 1) / c ≤ j - 0 - 1 := fun h => Int.ediv_le_self _ (by omega)
  refine ⟨(if 0 < j then (j - 0 - 1) / c + 1 else 0).toNat, ⟨by omega, by omega, ?_, ?_⟩, ?_⟩
  · unfold Builtin.Range.small
    rw [hs]
    simp only [Builtin.Range.rangeFitsLong, Bool.and_eq_true, Bool.or_eq_true, decide_eq_true_eq, beq_iff_eq, if_pos c0]
    by_cases hj : 0 < j
    · have := hd0 hj
      have := hd1 hj
      rw [if_pos hj]
      omega
    · rw [if_neg hj]
      omega
  · rw [hs, Int.toNat_of_nonneg]
    split
    · have := hd0 (by assumption)
      omega
    · omega
  · intro k hk
    by_cases hj : 0 < j
    · rw [if_pos hj] at hk
      have h2 : (k : Int) ≤ (j - 0 - 1) / c := by
        have := hd0 hj
        omega
      have := (Int.le_ediv_iff_mul_le c0).mp h2
      omega
    · rw [if_neg hj] at hk
      exact absurd hk (Nat.not_lt_zero _)
theorem q_forR3 {ta : TA} {i : Nat} {j c : Int} (h : EvA ta σ H [.int 0, .int j, .int c]) (h0 : 0 ≤ j) (h1 : j ≤ 100000) (c0 : 0 < c) (c1 : c ≤ 100000) (Pv : Nat → L2.St → Hp → Prop) (hp0 : ∀ H1, Ex H H1 → Pv 0 σ H1)
    (hs : ∀ (k : Nat) σ' H', (k : Int) * c < j → Pv k σ' H' → tu { D with nx := Pv (k + 1), ct := Pv (k + 1), bk := tz D } (σ'.set i (some (.int ((k : Int) * c)))) H') (hd : ∀ k σ' H', Pv k σ' H' → tz D σ' H') : tSeq (tFor (iRng3 ta) (gName i) tu) tz D σ H := by
  obtain ⟨n, hr, hn⟩ := RgC.up h0 h1 c0 c1
  refine h H (Ex.refl H) _ fun H1 e1 => ⟨0, j, c, n, rfl, hr, for_rangeC (lo := 0) (c := c) (n := n) Pv (hp0 H1 e1) (fun k σ' H' hk p => ?_) fun σ' H' p => hd n σ' H' p⟩
  have e0 : (0 : Int) + (k : Int) * c = (k : Int) * c := Int.zero_add _
  show tu { D with nx := Pv (k + 1), ct := Pv (k + 1), bk := tz D } (σ'.set i (some (.int ((0 : Int) + (k : Int) * c)))) H'
  rw [e0]
  exact hs k σ' H' (hn k hk) p
/-- three new tuples, drawn -/
theorem qw_par3U {i j l : Nat} {tc : TE} {d3 : Nat} {PA PB PC : List V → Prop} (h1 : EvWU a d1 ta σ H PA) (h2 : EvWU a d2 tb σ H PB) (h3 : EvWU a d3 tc σ H PC) (w : Well H a n) (hl : n + (d1 + d2 + d3) ≤ 2 ^ 50)
    (k : ∀ p q r xs ys zs H1, H p = none → H q = none → H r = none → But a H H1 → Well H1 a (n + (d1 + d2 + d3)) → H1 p = some (.tup xs) → H1 q = some (.tup ys) → H1 r = some (.tup zs) → PA xs → PB ys → PC zs →
      tz D (((σ.set i (some (.ref p))).set j (some (.ref q))).set l (some (.ref r))) H1) : tSeq (tPar3 i j l (tCons ta (tCons tb (tCons tc tNil)))) tz D σ H :=
  h1 n H (But.refl a H) w (by omega) _ fun p xs H2 hp b2 w2 g2 pa => h2 (n + d1) H2 b2 w2 (by omega) _ fun q ys H3 hq b3 w3 g3 pb => h3 (n + d1 + d2) H3 (b2.trans b3) w3 (by omega) _ fun r zs H4 hr b4 w4 g4 pc => by
    refine ⟨_, _, _, rfl, k p q r xs ys zs H4 hp (but_free b2 w2 hq) (but_free (b2.trans b3) w3 hr) ((b2.trans b3).trans b4) ?_ (b4 _ _ (w.ne hp) (b3 _ _ (w.ne hp) g2)) (b4 _ _ (w2.ne hq) g3) g4 pa pb pc⟩
    rw [show n + (d1 + d2 + d3) = n + d1 + d2 + d3 by omega]
    exact w4
theorem qw_par3L {i j l : Nat} {tc : TE} {d3 : Nat} {PA PB PC : List V → Prop} (h1 : EvWL a d1 ta σ H PA) (h2 : EvWL a d2 tb σ H PB) (h3 : EvWL a d3 tc σ H PC) (w : Well H a n) (hl : n + (d1 + d2 + d3) ≤ 2 ^ 50)
    (k : ∀ p q r xs ys zs H1, H p = none → H q = none → H r = none → But a H H1 → Well H1 a (n + (d1 + d2 + d3)) → H1 p = some (.lst xs) → H1 q = some (.lst ys) → H1 r = some (.lst zs) → PA xs → PB ys → PC zs →
      tz D (((σ.set i (some (.ref p))).set j (some (.ref q))).set l (some (.ref r))) H1) : tSeq (tPar3 i j l (tCons ta (tCons tb (tCons tc tNil)))) tz D σ H :=
  h1 n H (But.refl a H) w (by omega) _ fun p xs H2 hp b2 w2 g2 pa => h2 (n + d1) H2 b2 w2 (by omega) _ fun q ys H3 hq b3 w3 g3 pb => h3 (n + d1 + d2) H3 (b2.trans b3) w3 (by omega) _ fun r zs H4 hr b4 w4 g4 pc => by
    refine ⟨_, _, _, rfl, k p q r xs ys zs H4 hp (but_free b2 w2 hq) (but_free (b2.trans b3) w3 hr) ((b2.trans b3).trans b4) ?_ (b4 _ _ (w.ne hp) (b3 _ _ (w.ne hp) g2)) (b4 _ _ (w2.ne hq) g3) g4 pa pb pc⟩
    rw [show n + (d1 + d2 + d3) = n + d1 + d2 + d3 by omega]
    exact w4
end
end Bk
namespace Bk
open PySem PySem.Spec PyProof.Rows L2 Evl
/-! ### lists of lists of numbers -/
def up (r : List Nat) : List Int := r.map fun k : Nat => (k : Int)
theorem up_length (r : List Nat) : (up r).length = r.length := by simp [up]
def Nest (H : Hp) (qs : List Addr) (R : List (List Nat)) : Prop := qs.length = R.length ∧ ∀ (i : Nat) (q : Addr) (r : List Nat), qs[i]? = some q → R[i]? = some r → H q = some (.lst (vi (up r)))
section
variable {K : PySem.W.Frag} {σ : L2.St} {H H1 H' : Hp} {qs : List Addr} {R : List (List Nat)} {p q : Addr} {r : List Nat} {ta tb te tl : TE} {t u : TT} {x y z v : V} {D : Ends} {tu tw tz : TS}
theorem Nest.nil : Nest H [] [] := ⟨rfl, fun _ _ _ h => nomatch h⟩
theorem Nest.ex (h : Nest H qs R) (e : Ex H H1) : Nest H1 qs R := ⟨h.1, fun i q r a b => e _ _ (h.2 i q r a b)⟩
theorem Nest.but (h : Nest H qs R) (e : But p H H1) (n : ∀ q ∈ qs, q ≠ p) : Nest H1 qs R := ⟨h.1, fun i q r a b => e _ _ (n q (List.mem_of_getElem? a)) (h.2 i q r a b)⟩
theorem Nest.upd {o : HO} (h : Nest H qs R) (n : ∀ q ∈ qs, q ≠ p) : Nest (L2.upd H p o) qs R := ⟨h.1, fun i q r a b => by
  rw [upd_ne (n q (List.mem_of_getElem? a))]
  exact h.2 i q r a b⟩
theorem Nest.some (h : Nest H qs R) (hq : q ∈ qs) : ∃ o, H q = some o := by
  obtain ⟨i, hi, e⟩ := List.getElem_of_mem hq
  have hi' : i < R.length := h.1 ▸ hi
  exact ⟨_, h.2 i q R[i] (by rw [← e, List.getElem?_eq_getElem hi]) (List.getElem?_eq_getElem hi')⟩
theorem Nest.ne (_ : Nest H qs R) (h : Nest H1 qs R) (hq : q ∈ qs) (n : H1 p = none) : q ≠ p := fun e => by
  obtain ⟨o, ho⟩ := h.some hq
  rw [e, n] at ho
  cases ho
theorem Nest.put (h : Nest H qs R) (hq : H q = Option.some (.lst (vi (up r)))) : Nest H (qs ++ [q]) (R ++ [r]) := by
  refine ⟨by rw [List.length_append, List.length_append, h.1]; rfl, fun i q' r' a b => ?_⟩
  by_cases c : i < qs.length
  · rw [List.getElem?_append_left c] at a
    rw [List.getElem?_append_left (h.1 ▸ c)] at b
    exact h.2 i q' r' a b
  · rw [List.getElem?_append_right (by omega)] at a
    rw [List.getElem?_append_right (by have := h.1; omega)] at b
    rw [← h.1] at b
    match hi : i - qs.length, a, b with
    | 0, a, b =>
      cases a
      cases b
      exact hq
    | k + 1, a, b => cases a
theorem ne_of_none' {o : HO} {a b : Addr} (n : H a = none) (h : H b = some o) : a ≠ b := fun e => by
  rw [e, h] at n
  cases n
theorem rings_le {R : List (List Nat)} (h : ∀ r ∈ R, 0 < r.length) : R.length ≤ R.flatten.length := by
  induction R with
  | nil => exact Nat.le_refl _
  | cons a R ih =>
    rw [List.flatten_cons, List.length_append, List.length_cons]
    have := h a List.mem_cons_self
    have := ih fun r hr => h r (List.mem_cons_of_mem _ hr)
    omega
def RetN (R : List (List Nat)) (H : Hp) (Q : VK) : Prop := ∀ p qs H2, H p = none → Ex H H2 → H2 p = some (.lst (qs.map .ref)) → Nest H2 qs R → (∀ q ∈ qs, H q = none) → Q (.ref p) H2
def SpN (sp : Sp) (vs : List V) (H : Hp) (R : List (List Nat)) : Prop := ∀ H1, Ex H H1 → ∀ Q : VK, RetN R H1 Q → ∀ E : XK, sp vs H1 Q E
def EvN (te : TE) (σ : L2.St) (H : Hp) (R : List (List Nat)) : Prop := ∀ H1, Ex H H1 → ∀ Q : VK, RetN R H1 Q → te σ H1 Q
theorem en_call {sp : Sp} {vs : List V} {E : XK} {ta : TA} (h : EvA ta σ H vs) (hs : SpN sp vs H R) : EvN (tCall sp [] E ta) σ H R := fun H1 e Q q =>
  h H1 e _ fun H2 e2 => by
    have := hs H2 (e.trans e2) Q (fun p qs H3 hp e3 h3 n f => q p qs H3 (fresh_back e2 hp) (e2.trans e3) h3 n fun b hb => fresh_back e2 (f b hb)) E
    rw [← List.append_nil vs] at this
    exact this
/-- a comprehension over it -/
theorem el_lcN {j : Nat} {vs : List Nat} (f : Nat → Bool) (v : Nat → V) (h : EvN tl σ H R) (hz : R.length ≤ 40000) (hw : ∀ x, wipe ((wipe σ vs).set j (some x)) vs = wipe σ vs)
    (ht : ∀ (i : Nat) q r H1, Ex H H1 → R[i]? = some r → H1 q = some (.lst (vi (up r))) → EvT t ((wipe σ vs).set j (some (.ref q))) H1 (f i)) (he : ∀ (i : Nat) q r H1, Ex H H1 → R[i]? = some r → H1 q = some (.lst (vi (up r))) → f i = true → Ev te ((wipe σ vs).set j (some (.ref q))) H1 (v i)) :
    EvL (tLc (iList K tl) (gName j) t te vs) σ H (given R.length f v) := fun H0 e Q q => h H0 e _ fun a qs H1 ha e1 hx nq _ => ⟨a, rfl, ⟨qs.map .ref, sq_of hx⟩, fun Dl hD =>
  lc_list (xs := qs.map .ref) (Cw H1 f v Dl) ⟨hD, Ex.new hD, upd_same⟩ (fun i H' _ p => sq_of (p.2.1 a _ hx)) (fun i x H' hi p => by
    rw [List.getElem?_map] at hi
    cases g : qs[i]? with
    | none => rw [g] at hi; cases hi
    | some b =>
      rw [g] at hi
      cases hi
      have hl := (List.getElem?_eq_some_iff.mp g).1
      have hlr : i < R.length := nq.1 ▸ hl
      have hR : R[i]? = some R[i] := List.getElem?_eq_getElem hlr
      have hb := nq.2 i b _ g hR
      refine ⟨hw _, cw_turn p (by have := nq.1; omega) (ht i b _ H1 (e.trans e1) hR hb) (fun hf => he i b _ H1 (e.trans e1) hR hb hf)⟩)
    (fun H' p => q Dl H' (fresh_back e1 p.1) (e1.trans p.2.1) (by
      have := p.2.2
      rw [List.length_map, nq.1] at this
      exact this))⟩
/-- a loop over it -/
theorem s_forN {j : Nat} (h : EvN tl σ H R) (Pv : Addr → List Addr → Nat → L2.St → Hp → Prop) (h0 : ∀ p qs H1, H p = none → Ex H H1 → H1 p = some (.lst (qs.map .ref)) → Nest H1 qs R → (∀ q ∈ qs, H q = none) → Pv p qs 0 σ H1)
    (hl : ∀ p qs i σ' H', i ≤ R.length → Pv p qs i σ' H' → H' p = some (.lst (qs.map .ref)) ∧ Nest H' qs R)
    (hs : ∀ p qs i q r σ' H', R[i]? = some r → H' q = some (.lst (vi (up r))) → q ∈ qs → Pv p qs i σ' H' → tu { D with nx := Pv p qs (i + 1), ct := Pv p qs (i + 1), bk := D.nx } (σ'.set j (some (.ref q))) H') (hd : ∀ p qs σ' H', Pv p qs R.length σ' H' → D.nx σ' H') : tFor (iList K tl) (gName j) tu D σ H :=
  h H (Ex.refl H) _ fun p qs H1 hp e h1 nq fq => ⟨p, rfl, ⟨qs.map .ref, sq_of h1⟩, for_list (Pv p qs) (h0 p qs H1 hp e h1 nq fq) (fun i σ' H' hi k => sq_of (hl p qs i σ' H' (by rw [List.length_map, nq.1] at hi; exact hi) k).1) (fun i x σ' H' hx k => by
    rw [List.getElem?_map] at hx
    cases g : qs[i]? with
    | none => rw [g] at hx; cases hx
    | some b =>
      rw [g] at hx
      cases hx
      have hlt := (List.getElem?_eq_some_iff.mp g).1
      have hlr : i < R.length := nq.1 ▸ hlt
      have hR : R[i]? = some R[i] := List.getElem?_eq_getElem hlr
      exact hs p qs i b _ σ' H' hR ((hl p qs i σ' H' (Nat.le_of_lt hlr) k).2.2 i b _ g hR) (List.mem_of_getElem? g) k) (fun σ' H' k => hd p qs σ' H' (by rw [List.length_map, nq.1] at k; exact k))⟩
theorem q_forN {j : Nat} (h : EvN tl σ H R) (Pv : Addr → List Addr → Nat → L2.St → Hp → Prop) (h0 : ∀ p qs H1, H p = none → Ex H H1 → H1 p = some (.lst (qs.map .ref)) → Nest H1 qs R → (∀ q ∈ qs, H q = none) → Pv p qs 0 σ H1)
    (hl : ∀ p qs i σ' H', i ≤ R.length → Pv p qs i σ' H' → H' p = some (.lst (qs.map .ref)) ∧ Nest H' qs R)
    (hs : ∀ p qs i q r σ' H', R[i]? = some r → H' q = some (.lst (vi (up r))) → q ∈ qs → Pv p qs i σ' H' → tu { D with nx := Pv p qs (i + 1), ct := Pv p qs (i + 1), bk := tz D } (σ'.set j (some (.ref q))) H') (hd : ∀ p qs σ' H', Pv p qs R.length σ' H' → tz D σ' H') : tSeq (tFor (iList K tl) (gName j) tu) tz D σ H :=
  s_forN (D := { D with nx := tz D }) h Pv h0 hl hs hd
end
end Bk
namespace Bk
open PySem PySem.Spec PyProof.Rows L2 Evl
/-! ### tests and calls with drawn parts -/
def EvWT (a : Addr) (d : Nat) (t : TT) (σ : L2.St) (H : Hp) (b : Bool) : Prop := ∀ (n : Nat) (H1 : Hp), But a H H1 → Well H1 a n → n + d ≤ 2 ^ 50 → ∀ Q : Bool → Hp → Prop, (∀ H2, But a H1 H2 → Well H2 a (n + d) → Q b H2) → t σ H1 Q
section
variable {K : PySem.W.Frag} {σ : L2.St} {H : Hp} {ta tb te ti tl : TE} {t u : TT} {a : Addr} {d d1 d2 n : Nat} {P P1 P2 : V → Prop} {v x y : V} {b : Bool} {D : Ends} {tu tw tz : TS} {sp : Sp} {E : XK}
theorem ewt_test (h : EvW a d te σ H (fun v => v = .bl b)) : EvWT a d (tTest te) σ H b := fun n H1 bt w l Q q => h n H1 bt w l _ fun v H2 b2 w2 e => ⟨b, e, q H2 b2 w2⟩
theorem ewt_B (h : EvW a d te σ H (fun v => v = .bl b)) : EvWT a d (tB te) σ H b := fun n H1 bt w l Q q => h n H1 bt w l _ fun v H2 b2 w2 e => ⟨b, e, q H2 b2 w2⟩
theorem ewt_not {c : Bool} (h : EvWT a d t σ H c) : EvWT a d (tNot t) σ H (!c) := fun n H1 bt w l Q q => h n H1 bt w l _ fun H2 b2 w2 => q H2 b2 w2
theorem qw_when (h : EvWT a d t σ H b) (w : Well H a n) (l : n + d ≤ 2 ^ 50) (k1 : b = true → ∀ H1, But a H H1 → Well H1 a (n + d) → tu { D with nx := tz D } σ H1) (k2 : b = false → ∀ H1, But a H H1 → Well H1 a (n + d) → tw { D with nx := tz D } σ H1) : tSeq (tIfS t tu tw) tz D σ H :=
  h n H (But.refl a H) w l _ fun H2 b2 w2 => by
    cases b with
    | true => exact iteT (k1 rfl H2 b2 w2)
    | false => exact iteF (k2 rfl H2 b2 w2)
theorem sw_when (h : EvWT a d t σ H b) (w : Well H a n) (l : n + d ≤ 2 ^ 50) (k1 : b = true → ∀ H1, But a H H1 → Well H1 a (n + d) → tu D σ H1) (k2 : b = false → ∀ H1, But a H H1 → Well H1 a (n + d) → tw D σ H1) : tIfS t tu tw D σ H :=
  h n H (But.refl a H) w l _ fun H2 b2 w2 => by
    cases b with
    | true => exact iteT (k1 rfl H2 b2 w2)
    | false => exact iteF (k2 rfl H2 b2 w2)
theorem sw_ret (h : EvW a d te σ H P) (w : Well H a n) (l : n + d ≤ 2 ^ 50) (k : ∀ v H1, But a H H1 → Well H1 a (n + d) → P v → D.rt v H1) : tRet te D σ H := h n H (But.refl a H) w l _ k
/-- f(drawn tuple) -/
theorem ew_callU {PU : List V → Prop} (h : EvWU a d te σ H PU) (hs : ∀ p xs H1, H1 p = some (.tup xs) → PU xs → SpV sp [.ref p] H1 v) : EvW a d (tCall sp [] E (tCons te tNil)) σ H (fun z => z = v) := fun n H1 bt w l Q q =>
  h n H1 bt w l _ fun p xs H2 hp b2 w2 h2 pu => hs p xs H2 h2 pu H2 (Ex.refl H2) Q (fun H3 e3 => q v H3 (b2.trans (But.ex e3)) (w2.ex e3) rfl) E
theorem ew_callUV {PU : List V → Prop} (h : EvWU a d1 te σ H PU) (h' : EvW a d2 ti σ H P) (hs : ∀ p xs x H1, H1 p = some (.tup xs) → PU xs → P x → SpV sp [.ref p, x] H1 v) : EvW a (d1 + d2) (tCall sp [] E (tCons te (tCons ti tNil))) σ H (fun z => z = v) := fun n H1 bt w l Q q =>
  h n H1 bt w (by omega) _ fun p xs H2 hp b2 w2 h2 pu => h' (n + d1) H2 (bt.trans b2) w2 (by omega) _ fun x H3 b3 w3 px => hs p xs x H3 (b3 _ _ (w.ne hp) h2) pu px H3 (Ex.refl H3) Q (fun H4 e4 => q v H4 ((b2.trans b3).trans (But.ex e4)) (by
    have := w3.ex e4
    rw [Nat.add_assoc] at this
    exact this) rfl) E
/-- draw > 0 or f(..) -/
theorem ew_orV {c : Bool} (h1 : EvW a d1 ta σ H (fun v => ∃ b, v = .bl b)) (h2 : EvW a d2 tb σ H (fun v => v = .bl true)) : EvW a (d1 + d2) (tOrV ta tb) σ H (fun v => v = .bl true) := fun n H1 bt w l Q q =>
  h1 n H1 bt w (by omega) _ fun v H2 b2 w2 ⟨b, e⟩ => ⟨b, e, by
    cases b with
    | true => exact iteT (q _ H2 b2 (w2.mono (by omega)) rfl)
    | false => exact iteF (h2 (n + d1) H2 (bt.trans b2) w2 (by omega) Q fun v H3 b3 w3 e => q v H3 (b2.trans b3) (by
        rw [Nat.add_assoc] at w3
        exact w3) e)⟩
theorem ew_gt {P1 P2 : Int → Prop} (h1 : EvW a d1 ta σ H (fun v => ∃ r, v = .int r ∧ P1 r)) (h2 : EvW a d2 tb σ H (fun v => ∃ r, v = .int r ∧ P2 r)) : EvW a (d1 + d2) (tOp (rI0 fun i j => .bl (decide (j < i))) ta tb) σ H (fun v => ∃ b, v = .bl b) :=
  ew_op h1 h2 fun x y ⟨i, ei, p⟩ ⟨j, ej, p'⟩ => ⟨.bl (decide (j < i)), fun H => by
    rw [ei, ej]
    exact rv_b rfl, _, rfl⟩
theorem ew_sub {P1 P2 P : Int → Prop} (h1 : EvW a d1 ta σ H (fun v => ∃ r, v = .int r ∧ P1 r)) (h2 : EvW a d2 tb σ H (fun v => ∃ r, v = .int r ∧ P2 r)) (h : ∀ x y, P1 x → P2 y → P (x - y)) :
    EvW a (d1 + d2) (tOp (rI0 fun i j => .int (i - j)) ta tb) σ H (fun v => ∃ r, v = .int r ∧ P r) :=
  ew_op h1 h2 fun x y ⟨i, ei, p⟩ ⟨j, ej, p'⟩ => ⟨.int (i - j), fun H => by
    rw [ei, ej]
    exact rv_I0, i - j, rfl, h i j p p'⟩
end
section
variable {K : PySem.W.Frag} {σ : L2.St} {H : Hp} {ta tb : TE} {D : Ends} {tz : TS}
/-- x, y = ([..], [..]) by a tuple -/
theorem q_tupLL {i j : Nat} {xs ys : List V} (h1 : EvL ta σ H xs) (h2 : ∀ p H1, H p = none → Ex H H1 → H1 p = some (.lst xs) → EvL tb σ H1 ys) (k : ∀ p q H1, H p = none → H q = none → p ≠ q → Ex H H1 → H1 p = some (.lst xs) → H1 q = some (.lst ys) → tz D ((σ.set i (some (.ref p))).set j (some (.ref q))) H1) :
    tSeq (tAsg (tTup (tCons ta (tCons tb tNil))) (gTup K 2 (gCons (gName i) (gCons (gName j) gNil)))) tz D σ H :=
  h1 H (Ex.refl H) _ fun p H2 hp e2 g2 => h2 p H2 hp e2 g2 H2 (Ex.refl H2) _ fun q H3 hq e3 g3 => ⟨sz_of (by show 2 ≤ 100000; decide), fun r hr => ⟨r, _, rfl, st_of upd_same, rfl, _, _, rfl, _, _, rfl, rfl, k p q _ hp (fresh_back e2 hq) (ne_of_none g2 hq) ((e2.trans e3).trans (Ex.new hr)) (Ex.new hr _ _ (e3 _ _ g2)) (Ex.new hr _ _ g3)⟩⟩
end
/-! ### lists picked -/
theorem given_filter (xs : List Int) (p : Int → Bool) : given xs.length (fun j => p (xs.getD j 0)) (fun j => V.int (xs.getD j 0)) = vi (xs.filter p) := by
  have e : xs = (List.range xs.length).map fun j => xs.getD j 0 := by
    refine List.ext_getElem? fun i => ?_
    rw [List.getElem?_map]
    by_cases hi : i < xs.length
    · rw [List.getElem?_range hi, List.getElem?_eq_getElem hi]
      show _ = some (xs.getD i 0)
      rw [List.getD_eq_getElem?_getD, List.getElem?_eq_getElem hi]
      rfl
    · rw [List.getElem?_eq_none (by omega), List.getElem?_eq_none (by rw [List.length_range]; omega)]
      rfl
  have e2 : xs.filter p = ((List.range xs.length).filter fun j => p (xs.getD j 0)).map fun j => xs.getD j 0 := by
    conv => lhs; rw [e]
    rw [List.filter_map]
    rfl
  unfold given vi
  rw [e2, List.map_map]
  rfl
theorem perm_sum {xs ys : List Int} (h : xs.Perm ys) : xs.sum = ys.sum := by
  induction h with
  | nil => rfl
  | cons x _ ih => rw [List.sum_cons, List.sum_cons, ih]
  | swap x y l => simp only [List.sum_cons]; omega
  | trans _ _ a b => exact a.trans b
end Bk
namespace Bk
open PySem PySem.Spec PyProof.Rows L2 Evl
/-! ### xs.count(k) -/
def rLCount : V → List V → Hp → VK → Prop := fun x vs H Q => ∃ l ns k, x = .ref l ∧ vs = [.int k] ∧ H l = some (.lst (vi ns)) ∧ Q (.int (ns.count k : Nat)) H
theorem mt_lcount {X : Cx} : MtM X "list.count" rLCount := by
  intro pins s σ H x vs v us Q I rx rv h
  obtain ⟨l, ns, k, rfl, rfl, hH, q⟩ := h
  cases rx
  obtain ⟨u, rfl, ru⟩ := rv.one
  obtain ⟨t, rfl⟩ := ru
  obtain ⟨z, its, n, r, hl, e⟩ := I.lstM hH
  exact count_list_ints ⟨_, e, rfl, n, rfl⟩ r.ints ⟨.int (ns.count k : Nat), H, I.tok _, ⟨_, rfl⟩, q⟩
section
variable {K : PySem.W.Frag} {σ : L2.St} {H : Hp} {ta tb : TE}
theorem ev_lcount {l : Addr} {ns : List Int} {k : Int} (ha : Ev ta σ H (.ref l)) (h : H l = some (.lst (vi ns))) (hb : Ev tb σ H (.int k)) : Ev (tBM K "list" rLCount ta (tCons tb tNil)) σ H (.int ((ns.count k : Nat) : Int)) := fun H1 e Q q =>
  ha H1 e _ fun H2 e2 => ⟨Or.inl ⟨rfl, _, sq_of ((e.trans e2) _ _ h)⟩, hb H2 (e.trans e2) _ fun H3 e3 => ⟨l, ns, k, rfl, rfl, ((e.trans e2).trans e3) _ _ h, q H3 (e2.trans e3)⟩⟩
variable {tb' : TE} {D : Ends}
theorem s_parVV {i j : Nat} {x y : V} (h1 : Ev ta σ H x) (h2 : Ev tb σ H y) (k : ∀ H1, Ex H H1 → D.nx ((σ.set i (some x)).set j (some y)) H1) :
    tPar i j (tCons ta (tCons tb tNil)) D σ H :=
  h1 H (Ex.refl H) _ fun H2 e2 => h2 H2 e2 _ fun H3 e3 => ⟨_, _, rfl, k H3 (e2.trans e3)⟩
end
end Bk
namespace Bk
open PySem PySem.Spec PyProof.Rows L2 Evl
section
variable {K : PySem.W.Frag} {σ : L2.St} {H : Hp} {ta tb : TE}
theorem el_listT {p : Addr} {xs : List V} (ha : Ev ta σ H (.ref p)) (h : SqT K H p xs) : EvL (tCB (rListS K) (tCons ta tNil)) σ H xs := fun H1 e Q q =>
  ha H1 e _ fun H2 e2 => ⟨p, xs, rfl, Or.inr (ex_t (e.trans e2) h), fun l hl => q l _ (fresh_back e2 hl) (e2.trans (Ex.new hl)) upd_same⟩
theorem eu_rg1 {n : Int} (ha : Ev ta σ H (.int n)) (h0 : 0 ≤ n) (hn : n ≤ 100000) : EvU (tTupRg (tRg1 ta)) σ H (rgV 0 n) := fun H1 e Q q =>
  ha H1 e _ fun H2 e2 => ⟨n, rfl, RgOk.of_le (by omega) (by omega) (by omega) h0, fun l hl => q l _ (fresh_back e2 hl) (e2.trans (Ex.new hl)) upd_same⟩
theorem ev_neg {i : Int} (ha : Ev ta σ H (.int i)) : Ev (tUn (rU fun i => .int (-i)) ta) σ H (.int (-i)) := fun H1 e Q q => ha H1 e _ fun H2 e2 => ⟨i, rfl, q H2 e2⟩
end
end Bk
namespace Bk
open PySem PySem.Spec PyProof.Rows L2 Evl
/-! ### xs[i] += e, xs[i] -= e -/
def rGetL (K : PySem.W.Frag) : V → V → Hp → VK → Prop := fun x y H Q => ∃ (p : Addr) (xs : List V) (j : Nat) (v : V), x = .ref p ∧ y = .int (j : Int) ∧ SqL K H p xs ∧ xs[j]? = some v ∧ Q v H
theorem pget_list {X : Cx} : PGet X (rGetL X.K) := by
  intro pins s σ H o i ov iv Q I ro ri h
  obtain ⟨p, xs, j, v, rfl, rfl, hq, hx, q⟩ := h
  cases ro
  obtain ⟨t, rfl⟩ := ri
  obtain ⟨its, r, pl, hz⟩ := I.list hq
  obtain ⟨w, ew, rw'⟩ := r.get hx
  have hl := (List.getElem?_eq_some_iff.mp hx).1
  have hn := line63
  exact PySem.wpAny_getItem_list pl.isList (by omega) (by omega) (by simpa using ew) ⟨v, H, I, rw', q⟩
section
variable {K : PySem.W.Frag} {σ : L2.St} {H : Hp} {ta tb te ti to' : TE} {D : Ends} {tu tz : TS} {t : TT}
theorem s_augL {l : Addr} {xs : List V} {j : Nat} {a b : Int} {f : Int → Int → Int} (ho : Ev ta σ H (.ref l)) (hi : Ev ti σ H (.int (j : Int))) (hl : H l = some (.lst xs)) (hx : xs[j]? = some (.int a)) (he : Ev te σ H (.int b)) (k : ∀ H1, Ex H H1 → D.nx σ (upd H1 l (.lst (xs.set j (.int (f a b)))))) :
    tAugS ta ti te (rGetL K) (ipI f) rSetL D σ H := ho H (Ex.refl H) _ fun H1 e1 => hi H1 e1 _ fun H2 e2 =>
  ⟨l, xs, j, _, rfl, rfl, sq_of ((e1.trans e2) _ _ hl), hx, he H2 (e1.trans e2) _ fun H3 e3 => ⟨a, b, rfl, rfl, l, xs, (j : Int), j, rfl, rfl, ((e1.trans e2).trans e3) _ _ hl, ixN_nat (List.getElem?_eq_some_iff.mp hx).1, k H3 ((e1.trans e2).trans e3)⟩⟩
/-! ### range(a, b, c) upwards, from anywhere -/
theorem RgC.upG {lo j c : Int} (l0 : 0 ≤ lo) (l1 : lo ≤ 100000) (h0 : 0 ≤ j) (h1 : j ≤ 100000) (c0 : 0 < c) (c1 : c ≤ 100000) : ∃ n : Nat, RgC lo j c n ∧ (∀ k : Nat, k < n → lo + (k : Int) * c < j) ∧ j ≤ lo + (n : Int) * c := by
  have hs : Builtin.Range.rangeSize lo j c = (if lo < j then (j - lo - 1) / c + 1 else 0) := by
    unfold Builtin.Range.rangeSize
    rw [if_pos c0]
  have hd0 : lo < j → 0 ≤ (j - lo - 1) / c := fun h => Int.ediv_nonneg (by omega) (by omega)
  have hd1 : lo < j → (j - lo - 1) / c ≤ j - lo - 1 := fun h => Int.ediv_le_self _ (by omega)
  refine ⟨(if lo < j then (j - lo - 1) / c + 1 else 0).toNat, ⟨by omega, by omega, ?_, ?_⟩, ?_, ?_⟩
  · unfold Builtin.Range.small
    rw [hs]
    simp only [Builtin.Range.rangeFitsLong, Bool.and_eq_true, Bool.or_eq_true, decide_eq_true_eq, beq_iff_eq, if_pos c0]
    by_cases hj : lo < j
    · have := hd0 hj
      have := hd1 hj
      rw [if_pos hj]
      omega
    · rw [if_neg hj]
      omega
  · rw [hs, Int.toNat_of_nonneg]
    split
    · have := hd0 (by assumption)
      omega
    · omega
  · intro k hk
    by_cases hj : lo < j
    · rw [if_pos hj] at hk
      have h2 : (k : Int) ≤ (j - lo - 1) / c := by
        have := hd0 hj
        omega
      have := (Int.le_ediv_iff_mul_le c0).mp h2
      omega
    · rw [if_neg hj] at hk
      exact absurd hk (Nat.not_lt_zero _)
  · by_cases hj : lo < j
    · rw [if_pos hj]
      have := hd0 hj
      rw [Int.toNat_of_nonneg (by omega)]
      have := Int.lt_ediv_add_one_mul_self (j - lo - 1) c0
      omega
    · rw [if_neg hj]
      show j ≤ lo + (0 : Int) * c
      omega
theorem s_forR3G {ta : TA} {i : Nat} {lo j c : Int} (h : EvA ta σ H [.int lo, .int j, .int c]) (l0 : 0 ≤ lo) (l1 : lo ≤ 100000) (h0 : 0 ≤ j) (h1 : j ≤ 100000) (c0 : 0 < c) (c1 : c ≤ 100000) (Pv : Nat → L2.St → Hp → Prop) (hp0 : ∀ H1, Ex H H1 → Pv 0 σ H1)
    (hs : ∀ (k : Nat) σ' H', lo + (k : Int) * c < j → Pv k σ' H' → tu { D with nx := Pv (k + 1), ct := Pv (k + 1), bk := D.nx } (σ'.set i (some (.int (lo + (k : Int) * c)))) H') (hd : ∀ (k : Nat) σ' H', j ≤ lo + (k : Int) * c → Pv k σ' H' → D.nx σ' H') : tFor (iRng3 ta) (gName i) tu D σ H := by
  obtain ⟨n, hr, hn, he⟩ := RgC.upG l0 l1 h0 h1 c0 c1
  exact h H (Ex.refl H) _ fun H1 e1 => ⟨lo, j, c, n, rfl, hr, for_rangeC (lo := lo) (c := c) (n := n) Pv (hp0 H1 e1) (fun k σ' H' hk p => hs k σ' H' (hn k hk) p) fun σ' H' p => hd n σ' H' he p⟩
theorem q_forNEnC {xs : List V} {tl : TE} {c : Int} {i j : Nat} (h : EvL tl σ H xs) (Pv : Addr → Nat → L2.St → Hp → Prop) (h0 : ∀ p H1, H p = none → Ex H H1 → H1 p = some (.lst xs) → Pv p 0 σ H1) (hl : ∀ p n σ' H', n ≤ xs.length → Pv p n σ' H' → SqL K H' p xs)
    (hs : ∀ p n x σ' H', xs[n]? = some x → Pv p n σ' H' → ∀ H1, Ex H' H1 → tu { D with nx := Pv p (n + 1), ct := Pv p (n + 1), bk := tz D } ((σ'.set i (some (.int (c + (n : Nat))))).set j (some x)) H1) (hd : ∀ p σ' H', Pv p xs.length σ' H' → tz D σ' H') :
    tSeq (tFor (iEnumC K (tCons tl tNil) c) (g2 K i j) tu) tz D σ H := s_forNEnC (D := { D with nx := tz D }) h Pv h0 hl hs hd
theorem rv_notN {x : V} : RV (fun x y H Q => y = V.non ∧ Q (V.bl (!decide (x = V.non))) H) x .non H (.bl (!decide (x = .non))) := fun H1 e Q q => ⟨rfl, q H1 (Ex.refl H1)⟩
theorem rv_isN {x : V} : RV (fun x y H Q => y = V.non ∧ Q (V.bl (decide (x = V.non))) H) x .non H (.bl (decide (x = .non))) := fun H1 e Q q => ⟨rfl, q H1 (Ex.refl H1)⟩
/-! ### a comprehension whose items are drawn -/
theorem ewl_lcR1 {a : Addr} {d1 d2 : Nat} {N : Nat} {P : Int → Prop} {PE : V → Prop} {j : Nat} {vs : List Nat} (h : EvW a d1 te σ H (fun v => ∃ r, v = .int r ∧ P r)) (hP : ∀ r, P r → 0 ≤ r ∧ r ≤ N) (hN : N ≤ 40000) (hw : ∀ x, wipe ((wipe σ vs).set j (some x)) vs = wipe σ vs)
    (he : ∀ (i : Nat) H1, But a H H1 → EvW a d2 to' ((wipe σ vs).set j (some (.int (i : Int)))) H1 PE) :
    EvWL a (d1 + N * d2) (tLc (iRng1 (tCons te tNil)) (gName j) tYes to' vs) σ H (fun xs => ∃ r, P r ∧ (xs.length : Int) = r ∧ ∀ x ∈ xs, PE x) := fun n H0 b w l Q q =>
  h n H0 b w (by omega) _ fun v H1 b1 w1 ⟨r, er, pr⟩ => by
    subst er
    obtain ⟨r0, r1⟩ := hP r pr
    obtain ⟨m, rfl⟩ : ∃ m : Nat, r = m := ⟨r.toNat, by omega⟩
    have mle : m * d2 ≤ N * d2 := Nat.mul_le_mul_right _ (by omega)
    refine ⟨(m : Int), rfl, by omega, by omega, fun Dl hD => ?_⟩
    have nD : Dl ≠ a := w1.ne hD
    refine lc_range (lo := 0) (n := (m : Int).toNat) (fun i H' => But a H1 H' ∧ Well H' a (n + d1 + i * d2) ∧ ∃ xs, H' Dl = some (.lst xs) ∧ xs.length = i ∧ ∀ x ∈ xs, PE x) ⟨But.new hD, ?_, [], upd_same, rfl, fun x hx => nomatch hx⟩ (fun i H' hi p => ?_) (fun H' p => ?_)
    · rw [Nat.zero_mul, Nat.add_zero]
      exact w1.ex (Ex.new hD)
    · have e0 : (0 : Int) + (i : Int) = (i : Int) := Int.zero_add _
      show wipe ((wipe σ vs).set j (some (.int ((0 : Int) + (i : Int))))) vs = wipe σ vs ∧ tYes ((wipe σ vs).set j (some (.int ((0 : Int) + (i : Int))))) H' fun b H3 => if b = true then to' ((wipe σ vs).set j (some (.int ((0 : Int) + (i : Int))))) H3 fun y H4 => ∃ acc, H4 Dl = some (.lst acc) ∧ acc.length < sizeLine ∧ _ else _
      rw [e0]
      obtain ⟨p1, p2, xs, p3, p4, p5⟩ := p
      have hi' : i < m := by omega
      have ile : i * d2 + d2 ≤ m * d2 := by
        rw [← Nat.succ_mul]
        exact Nat.mul_le_mul_right _ hi'
      refine ⟨hw _, et_yes H' (Ex.refl H') _ fun H3 e3 => ?_⟩
      refine iteT (he i H3 (((b.trans b1).trans p1).trans (But.ex e3)) (n + d1 + i * d2) H3 (But.refl a H3) (p2.ex e3) (by omega) _ fun y H4 b4 w4 py => ?_)
      refine ⟨xs, b4 _ _ nD (e3 _ _ p3), sz_lt (by omega), ((p1.trans (But.ex e3)).trans b4).own hD, ?_, xs ++ [y], upd_same, by rw [List.length_append, p4]; rfl, fun x hx => ?_⟩
      · obtain ⟨x, y', c, q1, q2⟩ := w4
        refine ⟨x, y', c, by rw [upd_ne (Ne.symm nD)]; exact q1, ?_⟩
        rw [Nat.succ_mul]
        obtain ⟨q2, q3, q4, q5⟩ := q2
        exact ⟨q2, q3, q4, by omega⟩
      · rcases List.mem_append.mp hx with hx | hx
        · exact p5 x hx
        · rw [List.mem_singleton.mp hx]
          exact py
    · obtain ⟨p1, p2, xs, p3, p4, p5⟩ := p
      rw [Int.toNat_natCast] at p2 p4
      exact q Dl xs H' (but_free b1 w1 hD) (b1.trans p1) (p2.mono (by omega)) p3 ⟨(m : Int), pr, by rw [p4], p5⟩
end
section
variable {K : PySem.W.Frag} {σ : L2.St} {H : Hp} {ta tb te : TE} {a : Addr} {d1 d2 n : Nat} {D : Ends} {tz : TS}
/-- x, y = (drawn list, drawn list), by a tuple -/
theorem qw_tupLL {i j : Nat} {PA PB : List V → Prop} (h1 : EvWL a d1 ta σ H PA) (h2 : EvWL a d2 tb σ H PB) (w : Well H a n) (hl : n + (d1 + d2) ≤ 2 ^ 50)
    (k : ∀ p q xs ys H1, H p = none → H q = none → But a H H1 → Well H1 a (n + (d1 + d2)) → H1 p = some (.lst xs) → H1 q = some (.lst ys) → PA xs → PB ys → tz D ((σ.set i (some (.ref p))).set j (some (.ref q))) H1) :
    tSeq (tAsg (tTup (tCons ta (tCons tb tNil))) (gTup K 2 (gCons (gName i) (gCons (gName j) gNil)))) tz D σ H :=
  h1 n H (But.refl a H) w (by omega) _ fun p xs H2 hp b2 w2 g2 pa => h2 (n + d1) H2 b2 w2 (by omega) _ fun q ys H3 hq b3 w3 g3 pb => ⟨sz_of (by show 2 ≤ 100000; decide), fun r hr => ⟨r, _, rfl, st_of upd_same, rfl, _, _, rfl, _, _, rfl, rfl, by
    refine k p q xs ys _ hp (but_free b2 w2 hq) ((b2.trans b3).trans (But.new hr)) ?_ (Ex.new hr _ _ (b3 _ _ (w.ne hp) g2)) (Ex.new hr _ _ g3) pa pb
    rw [← Nat.add_assoc]
    exact w3.ex (Ex.new hr)⟩⟩
/-- x, y = (drawn, drawn), by a tuple -/
theorem qw_tupVV {i j : Nat} {PA PB : V → Prop} (h1 : EvW a d1 ta σ H PA) (h2 : EvW a d2 tb σ H PB) (w : Well H a n) (hl : n + (d1 + d2) ≤ 2 ^ 50)
    (k : ∀ x y H1, But a H H1 → Well H1 a (n + (d1 + d2)) → PA x → PB y → tz D ((σ.set i (some x)).set j (some y)) H1) :
    tSeq (tAsg (tTup (tCons ta (tCons tb tNil))) (gTup K 2 (gCons (gName i) (gCons (gName j) gNil)))) tz D σ H :=
  h1 n H (But.refl a H) w (by omega) _ fun x H2 b2 w2 pa => h2 (n + d1) H2 b2 w2 (by omega) _ fun y H3 b3 w3 pb => ⟨sz_of (by show 2 ≤ 100000; decide), fun r hr => ⟨r, _, rfl, st_of upd_same, rfl, _, _, rfl, _, _, rfl, rfl, by
    refine k x y _ ((b2.trans b3).trans (But.new hr)) ?_ pa pb
    rw [← Nat.add_assoc]
    exact w3.ex (Ex.new hr)⟩⟩
theorem el_callVL {sp : Sp} {x : V} {xs ys : List V} {E : XK} (h : Ev ta σ H x) (h2 : EvL tb σ H xs) (hs : ∀ p H1, Ex H H1 → H1 p = some (.lst xs) → SpL sp [x, .ref p] H1 ys) : EvL (tCall sp [] E (tCons ta (tCons tb tNil))) σ H ys := fun H1 e Q q =>
  h H1 e _ fun H2 e2 => h2 H2 (e.trans e2) _ fun p H3 hp e3 g3 => hs p H3 ((e.trans e2).trans e3) g3 H3 (Ex.refl H3) Q (fun r H4 hr e4 h4 => q r H4 (fresh_back (e2.trans e3) hr) ((e2.trans e3).trans e4) h4) E
theorem el_callLL {sp : Sp} {xs ys zs : List V} {E : XK} (h : EvL ta σ H xs) (h2 : EvL tb σ H ys) (hs : ∀ p q H1, Ex H H1 → H1 p = some (.lst xs) → H1 q = some (.lst ys) → SpL sp [.ref p, .ref q] H1 zs) : EvL (tCall sp [] E (tCons ta (tCons tb tNil))) σ H zs := fun H1 e Q q =>
  h H1 e _ fun p H2 hp e2 g2 => h2 H2 (e.trans e2) _ fun p' H3 hp' e3 g3 => hs p p' H3 ((e.trans e2).trans e3) (e3 _ _ g2) g3 H3 (Ex.refl H3) Q (fun r H4 hr e4 h4 => q r H4 (fresh_back (e2.trans e3) hr) ((e2.trans e3).trans e4) h4) E
theorem ew_mul {P1 P2 P : Int → Prop} (h1 : EvW a d1 ta σ H (fun v => ∃ r, v = .int r ∧ P1 r)) (h2 : EvW a d2 tb σ H (fun v => ∃ r, v = .int r ∧ P2 r)) (hc : ∀ x y, P1 x → P2 y → CMul x y) (h : ∀ x y, P1 x → P2 y → P (x * y)) :
    EvW a (d1 + d2) (tOp (rI CMul fun i j => .int (i * j)) ta tb) σ H (fun v => ∃ r, v = .int r ∧ P r) :=
  ew_op h1 h2 fun x y ⟨i, ei, p⟩ ⟨j, ej, p'⟩ => ⟨.int (i * j), fun H => by
    rw [ei, ej]
    exact rv_I (hc i j p p'), i * j, rfl, h i j p p'⟩
theorem ev_intB {b : Bool} (ha : Ev ta σ H (.bl b)) : Ev (tCB (fun xs H Q => (∃ i, xs = [.int i] ∧ Q (.int i) H) ∨ ∃ k, xs = [.bl k] ∧ Q (.int (if k then 1 else 0)) H) (tCons ta tNil)) σ H (.int (if b then 1 else 0)) := fun H1 e Q q =>
  ha H1 e _ fun H2 e2 => .inr ⟨b, rfl, q H2 e2⟩
end
theorem vi_of {P : Int → Prop} : ∀ {xs : List V}, (∀ x ∈ xs, ∃ z, x = V.int z ∧ P z) → ∃ cs, xs = vi cs ∧ ∀ z ∈ cs, P z
  | [], _ => ⟨[], rfl, fun _ h => nomatch h⟩
  | x :: xs, h => by
    obtain ⟨z, rfl, pz⟩ := h x List.mem_cons_self
    obtain ⟨cs, rfl, pc⟩ := vi_of fun y hy => h y (List.mem_cons_of_mem _ hy)
    refine ⟨z :: cs, rfl, fun y hy => ?_⟩
    rcases List.mem_cons.mp hy with e | hy
    · rw [e]
      exact pz
    · exact pc y hy
end Bk
namespace Bk
open PySem PySem.Spec PyProof.Rows L2 Evl
/-! ### xs[lo::step] -/
def stepV (xs : List V) (lo st : Option Int) : List V := (sliceRange (sliceBounds lo none st xs.length).1 (sliceBounds lo none st xs.length).2.1 (sliceBounds lo none st xs.length).2.2).filterMap fun i => xs[i]?
def rSlS (K : PySem.W.Frag) : V → Option Int → Option Int → Hp → VK → Prop := fun x lo st H Q => ∃ a xs, x = .ref a ∧ SqL K H a xs ∧ st ≠ some 0 ∧ ∀ p, H p = none → Q (.ref p) (upd H p (.lst (stepV xs lo st)))
def tSlS (r : V → Option Int → Option Int → Hp → VK → Prop) (te : TE) (tl ts : TO) : TE := fun σ H Q => te σ H fun x H1 => tl σ H1 fun l H2 => ts σ H2 fun c H3 => r x l c H3 Q
theorem pe_sliceS {X : Cx} {e : Expr} {te : TE} {lo : Option Expr} {st : Expr} {tl ts : TO} {pos p2 : Pos} (he : PE X e te) (hl : PO X lo tl) (hs : PO X (some st) ts) : PE X (.Subscript e (.Slice lo none (some st) p2) pos) (tSlS (rSlS X.K) te tl ts) := by
  refine ⟨fun pins s σ H Q I h => ?_⟩
  refine Subscript_ (thn (he.run pins s σ H _ I h) fun v s1 ⟨x, H1, I1, r1, q1⟩ => ?_)
  refine wpAny_Slice (thn (hl.run pins s1 σ H1 _ I1 q1) fun vl s2 ⟨l, H2, I2, pl, q2⟩ => ?_)
  rw [evalPart_none]
  refine wpAny_pure ?_
  refine thn (hs.run pins s2 σ H2 _ I2 q2) fun vs s3 ⟨c, H3, I3, ps, q3⟩ => ?_
  obtain ⟨a, xs, rfl, hx, h0, q⟩ := q3
  cases r1
  have I4 : Inv X pins σ H3 { s3 with heap := s3.heap.push { cls := .type "slice", data := .fields #[vl, .none, vs] } } := I3.kept (t' := s3.toks) fun b ob q => Heap.get?_push_of_some _ q
  obtain ⟨its, r, ht, hz⟩ := I4.list hx
  have hlen := r.length
  show wpAny (model X.prog X.w) X.A (subscriptTail e (.Slice lo none (some st) p2) (.ref a) (.ref s3.heap.objs.size)) (EP X pins σ Q) X.xe { s3 with heap := s3.heap.push { cls := .type "slice", data := .fields #[vl, .none, vs] } }
  refine tail_any (ops := [.ref a, .ref s3.heap.objs.size]) ht.isList.typeIs slot_list_getitem.lookup ?_ (by with_unfolding_all rfl)
  refine wpAny_getItem_list_slice ht.isList (Heap.IsSliceOf.new ..) pl .none ps h0 ?_ (by rw [List.size_toArray] <;> omega)
  have hv : Vals (stepV xs l c) ((sliceRange (sliceBounds l none c its.length).1 (sliceBounds l none c its.length).2.1 (sliceBounds l none c its.length).2.2).filterMap fun i => its[i]?) := by
    unfold stepV
    rw [hlen]
    exact vals_pick r _
  have hle := slicePick_size_le its.toArray l none c
  have hp : slicePick its.toArray l none c = ((sliceRange (sliceBounds l none c its.length).1 (sliceBounds l none c its.length).2.1 (sliceBounds l none c its.length).2.2).filterMap fun i => its[i]?).toArray := by
    unfold slicePick
    simp only [List.size_toArray, List.getElem?_toArray]
  rw [hp, List.size_toArray] at hle
  rw [hp]
  refine ⟨.ref _, _, I4.laid (t' := s3.toks) (o := .lst (stepV xs l c)) (fun b ob q => Heap.get?_push_of_some _ q) (Nat.le_refl _) ?_, rfl, q _ (I4.hok.fresh (Nat.le_refl _))⟩
  exact ⟨by rw [hv.length]; rw [List.size_toArray] at hle; omega, _, 0, hv, Heap.get?_push_size _ rfl⟩
theorem filterMap_all {α β : Type} {f : α → Option β} {g : α → β} : ∀ {l : List α}, (∀ i ∈ l, f i = some (g i)) → l.filterMap f = l.map g
  | [], _ => rfl
  | a :: l, h => by
    rw [List.filterMap_cons_some (h a List.mem_cons_self), filterMap_all fun i hi => h i (List.mem_cons_of_mem _ hi), List.map_cons]
theorem step_tab {xs : List Int} {c : Nat} (h0 : 1 ≤ c) (h1 : c ≤ xs.length) : stepV (vi xs) (some ((c : Int) - 1)) (some (c : Int)) = vi ((List.range (xs.length / c)).map fun i => xs.getD ((i + 1) * c - 1) 0) := by
  have eb : sliceBounds (some ((c : Int) - 1)) none (some (c : Int)) (vi xs).length = ((c : Int) - 1, (xs.length : Int), (c : Int)) := by
    rw [List.length_map]
    unfold sliceBounds
    simp only [Option.getD_some, show ¬ ((c : Int) - 1 < 0) by omega, show ((c : Int) > 0) by omega, if_true, if_false]
    rw [show max 0 (min ((c : Int) - 1) (xs.length : Int)) = (c : Int) - 1 by omega]
  unfold stepV
  rw [eb]
  show (sliceRange ((c : Int) - 1) (xs.length : Int) (c : Int)).filterMap _ = _
  have er : sliceRange ((c : Int) - 1) (xs.length : Int) (c : Int) = (List.range (xs.length / c)).map fun i => (i + 1) * c - 1 := by
    unfold sliceRange
    simp only [if_pos (show (c : Int) > 0 by omega), if_pos (show (c : Int) - 1 < (xs.length : Int) by omega)]
    rw [show ((xs.length : Int) - ((c : Int) - 1) + (c : Int) - 1) = (xs.length : Int) by omega, ← Int.natCast_ediv, Int.toNat_natCast]
    refine List.map_congr_left fun i _ => ?_
    have : ((c : Int) - 1 + (c : Int) * (i : Int)) = (((i + 1) * c : Nat) : Int) - 1 := by
      rw [Int.natCast_mul, Int.natCast_add, Int.add_mul, Int.mul_comm (c : Int)]
      omega
    show ((c : Int) - 1 + (c : Int) * (i : Int)).toNat = _
    rw [this]
    generalize (i + 1) * c = M
    omega
  rw [er, List.filterMap_map]
  unfold vi
  rw [List.map_map]
  refine filterMap_all fun i hi => ?_
  have hi := List.mem_range.mp hi
  have hle : (i + 1) * c ≤ xs.length := Nat.le_trans (Nat.mul_le_mul_right _ hi) (Nat.div_mul_le_self _ _)
  have hpos : 0 < (i + 1) * c := Nat.mul_pos (Nat.succ_pos i) (by omega)
  have hlt : (i + 1) * c - 1 < xs.length := by omega
  show (xs.map V.int)[(i + 1) * c - 1]? = some (V.int (xs.getD ((i + 1) * c - 1) 0))
  rw [List.getElem?_map, List.getD_eq_getElem?_getD, List.getElem?_eq_getElem hlt]
  rfl
section
variable {K : PySem.W.Frag} {σ : L2.St} {H : Hp} {ta tb te : TE}
theorem el_slS {a : Addr} {xs : List V} {tl ts : TO} {lo st : Option Int} (h : Ev te σ H (.ref a)) (h1 : EvO tl σ H lo) (h2 : EvO ts σ H st) (hx : SqL K H a xs) (h0 : st ≠ some 0) : EvL (tSlS (rSlS K) te tl ts) σ H (stepV xs lo st) := fun H1 e _ q =>
  h H1 e _ fun H2 e2 => h1 H2 (e.trans e2) _ fun H3 e3 => h2 H3 ((e.trans e2).trans e3) _ fun H4 e4 =>
    ⟨a, xs, rfl, ex_l (((e.trans e2).trans e3).trans e4) hx, h0, fun p hp => q p _ (fresh_back ((e2.trans e3).trans e4) hp) (((e2.trans e3).trans e4).trans (Ex.new hp)) upd_same⟩
end
end Bk
namespace Bk
open PySem PySem.Spec PyProof.Rows L2 Evl
/-! ### tuples compared -/
theorem rv_neT {K : PySem.W.Frag} {H : Hp} {p q : Addr} {ns ms : List Int} (h : SqT K H p (vi ns)) (h' : SqT K H q (vi ms)) : RV (rNeD K) (.ref p) (.ref q) H (.bl (!decide (ns = ms))) := fun H1 e Q k =>
  ⟨_, _, dp_tup (ex_t e h), dp_tup (ex_t e h'), shaped_t ns, shaped_t ms, by rw [eqv_t]; exact k H1 (Ex.refl H1)⟩
section
variable {K : PySem.W.Frag} {σ : L2.St} {H : Hp} {ta tb te : TE}
theorem ev_neUU {ns ms : List Int} (ha : EvU ta σ H (vi ns)) (hb : EvU tb σ H (vi ms)) : Ev (tOp (rNeD K) ta tb) σ H (.bl (!decide (ns = ms))) := fun H1 e Q k =>
  ha H1 e _ fun p H2 hp e2 h2 => hb H2 (e.trans e2) _ fun q H3 hq e3 h3 => rv_neT (st_of (e3 _ _ h2)) (st_of h3) H3 (Ex.refl H3) Q fun H4 e4 => k H4 ((e2.trans e3).trans e4)
theorem ev_neUT {p : Addr} {ns ms : List Int} (ha : EvU ta σ H (vi ns)) (hb : Ev tb σ H (.ref p)) (h : SqT K H p (vi ms)) : Ev (tOp (rNeD K) ta tb) σ H (.bl (!decide (ns = ms))) := fun H1 e Q k =>
  ha H1 e _ fun p H2 hp e2 h2 => hb H2 (e.trans e2) _ fun H3 e3 => rv_neT (st_of (e3 _ _ h2)) (ex_t ((e.trans e2).trans e3) h) H3 (Ex.refl H3) Q fun H4 e4 => k H4 ((e2.trans e3).trans e4)
end
section
variable {K : PySem.W.Frag} {σ : L2.St} {H : Hp} {ta tb te : TE} {a : Addr} {d1 d2 n : Nat} {D : Ends} {tz : TS}
theorem qw_tupUU {i j : Nat} {PA PB : List V → Prop} (h1 : EvWU a d1 ta σ H PA) (h2 : EvWU a d2 tb σ H PB) (w : Well H a n) (hl : n + (d1 + d2) ≤ 2 ^ 50)
    (k : ∀ p q xs ys H1, H p = none → H q = none → But a H H1 → Well H1 a (n + (d1 + d2)) → H1 p = some (.tup xs) → H1 q = some (.tup ys) → PA xs → PB ys → tz D ((σ.set i (some (.ref p))).set j (some (.ref q))) H1) :
    tSeq (tAsg (tTup (tCons ta (tCons tb tNil))) (gTup K 2 (gCons (gName i) (gCons (gName j) gNil)))) tz D σ H :=
  h1 n H (But.refl a H) w (by omega) _ fun p xs H2 hp b2 w2 g2 pa => h2 (n + d1) H2 b2 w2 (by omega) _ fun q ys H3 hq b3 w3 g3 pb => ⟨sz_of (by show 2 ≤ 100000; decide), fun r hr => ⟨r, _, rfl, st_of upd_same, rfl, _, _, rfl, _, _, rfl, rfl, by
    refine k p q xs ys _ hp (but_free b2 w2 hq) ((b2.trans b3).trans (But.new hr)) ?_ (Ex.new hr _ _ (b3 _ _ (w.ne hp) g2)) (Ex.new hr _ _ g3) pa pb
    rw [← Nat.add_assoc]
    exact w3.ex (Ex.new hr)⟩⟩
theorem qw_parVV {i j : Nat} {PA PB : V → Prop} (h1 : EvW a d1 ta σ H PA) (h2 : EvW a d2 tb σ H PB) (w : Well H a n) (hl : n + (d1 + d2) ≤ 2 ^ 50)
    (k : ∀ x y H1, But a H H1 → Well H1 a (n + (d1 + d2)) → PA x → PB y → tz D ((σ.set i (some x)).set j (some y)) H1) :
    tSeq (tPar i j (tCons ta (tCons tb tNil))) tz D σ H :=
  h1 n H (But.refl a H) w (by omega) _ fun x H2 b2 w2 pa => h2 (n + d1) H2 b2 w2 (by omega) _ fun y H3 b3 w3 pb => ⟨_, _, rfl, k x y _ (b2.trans b3) (by
    rw [← Nat.add_assoc]
    exact w3) pa pb⟩
theorem el_callUV {sp : Sp} {xs ys : List V} {y : V} {E : XK} (h : EvU ta σ H xs) (h2 : ∀ p H1, Ex H H1 → H1 p = some (.tup xs) → Ev tb σ H1 y) (hs : ∀ p H1, Ex H H1 → H1 p = some (.tup xs) → SpL sp [.ref p, y] H1 ys) : EvL (tCall sp [] E (tCons ta (tCons tb tNil))) σ H ys := fun H1 e Q q =>
  h H1 e _ fun p H2 hp e2 g2 => h2 p H2 (e.trans e2) g2 H2 (Ex.refl H2) _ fun H3 e3 => hs p H3 ((e.trans e2).trans e3) (e3 _ _ g2) H3 (Ex.refl H3) Q (fun r H4 hr e4 h4 => q r H4 (fresh_back (e2.trans e3) hr) ((e2.trans e3).trans e4) h4) E
end
section
variable {X : Cx} {K : PySem.W.Frag} {o e : Expr} {es : List Expr} {to : TE} {t : TA} {name : Str} {apos cpos : Pos} {T id : String} {r : V → List V → Hp → VK → Prop}
theorem pe_bmK (h : X.K = K) (pa : PlainAttrs T) (slot : Slot T name id) (hty : typeOf (.builtin id) = pure (.type "method_descriptor")) (hm : MtR X id r) (ho : PE X o to) (ha : PA X (e :: es) t)
    (hbase : attributeBase o name X.env (eval o X.env) = eval o X.env := by rfl)
    (hfew : ((backTo cpos (starEach (e :: es) X.env)).all (fun x => !x.1) && (backToKw cpos (keywordEach [] X.env)).all (fun x => x.1.isSome)
      && decide ((e :: es).length + ([] : List Keyword).length + (if ([] : List Keyword).isEmpty then 0 else 1) < 30)) = true := by rfl)
    (hline : (apos.endLine == cpos.line) = true := by rfl) (hs : starEach (e :: es) X.env = (false, eval e X.env) :: starEach es X.env := by rfl) (hplain : (backTo cpos (starEach es X.env)).any (·.1) = false := by rfl) :
    PE X (.Call (.Attribute o name apos) (e :: es) [] cpos) (tBM K T r to t) := by
  subst h
  exact pe_bm pa slot hty hm ho ha hbase hfew hline hs hplain
end
end Bk
namespace Bk
open PySem PySem.Spec PyProof.Rows L2 Evl
section
variable {K : PySem.W.Frag} {σ : L2.St} {H : Hp} {tl : TE} {a : Addr} {d : Nat} {sp : Sp} {E : XK}
/-- f(drawn list), a new list -/
theorem wl_callL {PA PB : List V → Prop} (h : EvWL a d tl σ H PA) (hs : ∀ p xs H1, H1 p = some (.lst xs) → PA xs → ∃ ys, SpL sp [.ref p] H1 ys ∧ PB ys) : EvWL a d (tCall sp [] E (tCons tl tNil)) σ H PB := fun n H1 b w l Q q =>
  h n H1 b w l _ fun p xs H2 hp b2 w2 h2 pa => by
    obtain ⟨ys, hy, pb⟩ := hs p xs H2 h2 pa
    exact hy H2 (Ex.refl H2) Q (fun r H3 hr e3 h3 => q r ys H3 (but_free b2 w2 hr) (b2.trans (But.ex e3)) (w2.ex e3) h3 pb) E
theorem sw_asgL' {D : Ends} {n : Nat} {i : Nat} {P : List V → Prop} {te : TE} (h : EvWL a d te σ H P) (w : Well H a n) (l : n + d ≤ 2 ^ 50) (k : ∀ p xs H1, H p = none → But a H H1 → Well H1 a (n + d) → H1 p = some (.lst xs) → P xs → D.nx (σ.set i (some (.ref p))) H1) : tAsg te (gName i) D σ H :=
  h n H (But.refl a H) w l _ fun p xs H2 hp b2 w2 h2 pa => k p xs H2 hp b2 w2 h2 pa
end
theorem ewl_mono {σ : L2.St} {H : Hp} {te : TE} {a : Addr} {d : Nat} {P P1 : List V → Prop} (x : EvWL a d te σ H P) (h : ∀ v, P v → P1 v) : EvWL a d te σ H P1 := fun n H1 b w l Q q => x n H1 b w l Q fun p v H2 hp b2 w2 g2 k => q p v H2 hp b2 w2 g2 (h v k)
/-- xs[j] = drawn -/
theorem sw_setL {K : PySem.W.Frag} {σ : L2.St} {H : Hp} {te ta tb : TE} {a : Addr} {d n : Nat} {D : Ends} {P : V → Prop} {l : Addr} {xs : List V} {j : Nat} (hl : H l = some (.lst xs)) (nl : l ≠ a) (h : EvW a d te σ H P) (ho : ∀ H1, Ev ta σ H1 (.ref l)) (hi : ∀ H1, Ev tb σ H1 (.int (j : Int))) (hj : j < xs.length) (w : Well H a n) (hn : n + d ≤ 2 ^ 50)
    (k : ∀ v H1, But a H H1 → Well H1 a (n + d) → P v → D.nx σ (upd H1 l (.lst (xs.set j v)))) : tAsg te (gSub ta tb rSetL) D σ H :=
  h n H (But.refl a H) w hn _ fun v H1 b1 w1 pv => ho H1 H1 (Ex.refl H1) _ fun H2 e2 => hi H2 H2 (Ex.refl H2) _ fun H3 e3 =>
    ⟨l, xs, (j : Int), j, rfl, rfl, (e2.trans e3) _ _ (b1 _ _ nl hl), ixN_nat hj, k v H3 (b1.trans (But.ex (e2.trans e3))) (w1.ex (e2.trans e3)) pv⟩
section
variable {K : PySem.W.Frag} {σ : L2.St} {H : Hp} {ta tb te : TE} {x z : V}
/-- a new list of which something is known -/
def EvLX (te : TE) (σ : L2.St) (H : Hp) (P : List V → Prop) : Prop := ∀ H1, Ex H H1 → ∀ Q : VK, (∀ p xs H2, H1 p = none → Ex H1 H2 → H2 p = some (.lst xs) → P xs → Q (.ref p) H2) → te σ H1 Q
def SpLX (sp : Sp) (vs : List V) (H : Hp) (P : List V → Prop) : Prop := ∀ H1, Ex H H1 → ∀ Q : VK, (∀ p xs H2, H1 p = none → Ex H1 H2 → H2 p = some (.lst xs) → P xs → Q (.ref p) H2) → ∀ E : XK, sp vs H1 Q E
theorem elx_call {sp : Sp} {vs : List V} {E : XK} {t : TA} {P : List V → Prop} (h : EvA t σ H vs) (hs : SpLX sp (vs ++ []) H P) : EvLX (tCall sp [] E t) σ H P := fun H1 e Q q =>
  h H1 e _ fun H2 e2 => hs H2 (e.trans e2) Q (fun p xs H3 hp e3 h3 k => q p xs H3 (fresh_back e2 hp) (e2.trans e3) h3 k) E
theorem elx_callK {sp : Sp} {gV : List V → List V → List V} {vs zs : List V} {E : XK} {t tk : TA} {P : List V → Prop} (h : EvA t σ H vs) (h' : EvA tk σ H zs) (hs : SpLX sp (gV vs zs) H P) : EvLX (tCallK sp gV E t tk) σ H P := fun H1 e Q q =>
  h H1 e _ fun H2 e2 => h' H2 (e.trans e2) _ fun H3 e3 => hs H3 ((e.trans e2).trans e3) Q (fun p xs H4 hp e4 h4 k => q p xs H4 (fresh_back (e2.trans e3) hp) ((e2.trans e3).trans e4) h4 k) E
theorem ev_callVLX {sp : Sp} {E : XK} {P : List V → Prop} (h : Ev ta σ H x) (h2 : EvLX tb σ H P) (hs : ∀ p xs H1, Ex H H1 → H1 p = some (.lst xs) → P xs → SpV sp [x, .ref p] H1 z) : Ev (tCall sp [] E (tCons ta (tCons tb tNil))) σ H z := fun H1 e Q q =>
  h H1 e _ fun H2 e2 => h2 H2 (e.trans e2) _ fun p xs H3 hp e3 g3 k => hs p xs H3 ((e.trans e2).trans e3) g3 k H3 (Ex.refl H3) Q (fun H4 e4 => q H4 ((e2.trans e3).trans e4)) E
theorem q_asgLX {D : Ends} {tz : TS} {i : Nat} {P : List V → Prop} (h : EvLX te σ H P) (k : ∀ p xs H1, H p = none → Ex H H1 → H1 p = some (.lst xs) → P xs → tz D (σ.set i (some (.ref p))) H1) : tSeq (tAsg te (gName i)) tz D σ H :=
  h H (Ex.refl H) _ fun p xs H1 hp e1 h1 pk => k p xs H1 hp e1 h1 pk
end
end Bk
namespace Bk
open PySem PySem.Spec PyProof.Rows L2 Evl
/-! ### math.gcd, math.lcm -/
def rLcm : List V → Hp → VK → Prop := fun vs H Q => ∃ a b : Int, vs = [.int a, .int b] ∧ a.natAbs < 2 ^ 64 ∧ b.natAbs < 2 ^ 64 ∧ Q (.int ((Nat.lcm a.natAbs b.natAbs : Nat) : Int)) H
theorem cr_lcm {X : Cx} : CallR X (.builtin "math.lcm") rLcm := by
  intro pins s σ H vs us Q I r h
  obtain ⟨a, b, rfl, ha, hb, q⟩ := h
  obtain ⟨t, u, rfl⟩ := Vals.int2 r
  have e : ((Nat.lcm 1 a.natAbs).lcm b.natAbs) = Nat.lcm a.natAbs b.natAbs := by rw [Nat.lcm_one_left]
  refine PySem.W.mg_lcm_v (c := ((Nat.lcm a.natAbs b.natAbs : Nat) : Int)) ha hb (by rw [e]) ?_ ⟨.int _, H, I.tok _, ⟨_, rfl⟩, q⟩
  rw [Int.natAbs_natCast]
  have h1 : Nat.lcm a.natAbs b.natAbs ≤ a.natAbs * b.natAbs := by
    by_cases h0 : a.natAbs * b.natAbs = 0
    · rcases Nat.mul_eq_zero.mp h0 with z | z
      · rw [z, Nat.lcm_zero_left]; exact Nat.zero_le _
      · rw [z, Nat.lcm_zero_right]; exact Nat.zero_le _
    · exact Nat.le_of_dvd (Nat.pos_of_ne_zero h0) (Nat.lcm_dvd_mul _ _)
  have h2 : a.natAbs * b.natAbs < 2 ^ 64 * 2 ^ 64 := Nat.mul_lt_mul'' ha hb
  exact Nat.lt_of_lt_of_le (PySem.Flt.log2_lt_of (k := 128) (by decide) (by omega)) (by decide)
section
variable {K : PySem.W.Frag} {σ : L2.St} {H : Hp} {ta tb te : TE} {a b : Int}
theorem ev_gcd (ha : Ev ta σ H (.int a)) (hb : Ev tb σ H (.int b)) : Ev (tCB rGcd (tCons ta (tCons tb tNil))) σ H (.int ((Nat.gcd a.natAbs b.natAbs : Nat) : Int)) := fun H1 e Q q =>
  ha H1 e _ fun H2 e2 => hb H2 (e.trans e2) _ fun H3 e3 => ⟨a, b, rfl, q H3 (e2.trans e3)⟩
theorem ev_lcm (ha : Ev ta σ H (.int a)) (hb : Ev tb σ H (.int b)) (h1 : a.natAbs < 2 ^ 64) (h2 : b.natAbs < 2 ^ 64) : Ev (tCB rLcm (tCons ta (tCons tb tNil))) σ H (.int ((Nat.lcm a.natAbs b.natAbs : Nat) : Int)) := fun H1 e Q q =>
  ha H1 e _ fun H2 e2 => hb H2 (e.trans e2) _ fun H3 e3 => ⟨a, b, rfl, h1, h2, q H3 (e2.trans e3)⟩
end
/-! ### None or a pair of a number and a text -/
def BarV (b : Option (Nat × Str)) (v : V) (H : Hp) : Prop := match b with
  | none => v = .non
  | some (n, s) => ∃ p, v = .ref p ∧ H p = some (.tup [.int (n : Int), .str s])
theorem BarV.ex {b : Option (Nat × Str)} {v : V} {H H' : Hp} (h : BarV b v H) (e : Ex H H') : BarV b v H' := by
  cases b with
  | none => exact h
  | some x =>
    obtain ⟨p, e1, e2⟩ := h
    exact ⟨p, e1, e _ _ e2⟩
theorem BarV.isN {b : Option (Nat × Str)} {v : V} {H : Hp} (h : BarV b v H) : decide (v = .non) = b.isNone := by
  cases b with
  | none =>
    have h' : v = .non := h
    rw [h']
    rfl
  | some x =>
    obtain ⟨p, e1, e2⟩ := h
    rw [e1]
    rfl
def RetB (b : Option (Nat × Str)) (H : Hp) (Q : VK) : Prop := ∀ v H2, Ex H H2 → BarV b v H2 → Q v H2
def SpB (sp : Sp) (vs : List V) (H : Hp) (b : Option (Nat × Str)) : Prop := ∀ H1, Ex H H1 → ∀ Q : VK, RetB b H1 Q → ∀ E : XK, sp vs H1 Q E
def EvB (te : TE) (σ : L2.St) (H : Hp) (b : Option (Nat × Str)) : Prop := ∀ H1, Ex H H1 → ∀ Q : VK, RetB b H1 Q → te σ H1 Q
section
variable {K : PySem.W.Frag} {σ : L2.St} {H : Hp} {ta tb te : TE} {t : TA} {sp : Sp} {E : XK} {vs xs : List V} {b : Option (Nat × Str)} {D : Ends} {tz : TS} {i : Nat}
theorem eb_call (h : EvA t σ H vs) (hs : SpB sp (vs ++ []) H b) : EvB (tCall sp [] E t) σ H b := fun H1 e Q q =>
  h H1 e _ fun H2 e2 => hs H2 (e.trans e2) Q (fun v H3 e3 h3 => q v H3 (e2.trans e3) h3) E
theorem eb_callK {gV : List V → List V → List V} {zs : List V} {tk : TA} (h : EvA t σ H vs) (h' : EvA tk σ H zs) (hs : SpB sp (gV vs zs) H b) : EvB (tCallK sp gV E t tk) σ H b := fun H1 e Q q =>
  h H1 e _ fun H2 e2 => h' H2 (e.trans e2) _ fun H3 e3 => hs H3 ((e.trans e2).trans e3) Q (fun v H4 e4 h4 => q v H4 ((e2.trans e3).trans e4) h4) E
theorem eb_callL (h : EvL te σ H xs) (hs : ∀ p H1, Ex H H1 → H1 p = some (.lst xs) → SpB sp [.ref p] H1 b) : EvB (tCall sp [] E (tCons te tNil)) σ H b := fun H1 e Q q =>
  h H1 e _ fun p H2 hp e2 h2 => hs p H2 (e.trans e2) h2 H2 (Ex.refl H2) Q (fun v H3 e3 h3 => q v H3 (e2.trans e3) h3) E
theorem ev_bN (h : EvB te σ H b) : Ev (tOp (fun x y H Q => y = V.non ∧ Q (V.bl (decide (x = V.non))) H) te (tC .non)) σ H (.bl b.isNone) := fun H1 e Q q =>
  h H1 e _ fun v H2 e2 h2 => ⟨rfl, by
    rw [h2.isN]
    exact q H2 e2⟩
theorem ev_bS (h : EvB te σ H b) : Ev (tOp (fun x y H Q => y = V.non ∧ Q (V.bl (!decide (x = V.non))) H) te (tC .non)) σ H (.bl b.isSome) := fun H1 e Q q =>
  h H1 e _ fun v H2 e2 h2 => ⟨rfl, by
    rw [h2.isN]
    cases b
    · exact q H2 e2
    · exact q H2 e2⟩
theorem q_asgB (h : EvB te σ H b) (k : ∀ v H1, Ex H H1 → BarV b v H1 → tz D (σ.set i (some v)) H1) : tSeq (tAsg te (gName i)) tz D σ H :=
  h H (Ex.refl H) _ fun v H1 e1 h1 => k v H1 e1 h1
theorem s_retB (h : EvB te σ H b) (k : ∀ v H1, Ex H H1 → BarV b v H1 → D.rt v H1) : tRet te D σ H := h H (Ex.refl H) _ k
theorem s_retBn {n : Nat} {s : Str} {k : Int} (h : Ev ta σ H (.int k)) (hk : k = (n : Int)) (h' : ∀ H1, Ex H H1 → Ev tb σ H1 (.str s)) (q : ∀ v H1, Ex H H1 → BarV (some (n, s)) v H1 → D.rt v H1) : tRet (tTup (tCons ta (tCons tb tNil))) D σ H :=
  h H (Ex.refl H) _ fun H1 e1 => h' H1 e1 H1 (Ex.refl H1) _ fun H2 e2 => ⟨sz_of (by show 2 ≤ 100000; decide), fun p hp => q (.ref p) _ ((e1.trans e2).trans (Ex.new hp)) ⟨p, rfl, by
    rw [upd_same, hk]⟩⟩
end
/-! ### a value of which something is known -/
def EvX (te : TE) (σ : L2.St) (H : Hp) (P : V → Prop) : Prop := ∀ H1, Ex H H1 → ∀ Q : VK, (∀ v H2, Ex H1 H2 → P v → Q v H2) → te σ H1 Q
def SpX (sp : Sp) (vs : List V) (H : Hp) (P : V → Prop) : Prop := ∀ H1, Ex H H1 → ∀ Q : VK, (∀ v H2, Ex H1 H2 → P v → Q v H2) → ∀ E : XK, sp vs H1 Q E
section
variable {K : PySem.W.Frag} {σ : L2.St} {H : Hp} {ta tb te tl : TE} {t : TA} {tt : TT} {sp : Sp} {E : XK} {vs xs : List V} {D : Ends} {tz tu tw : TS} {i : Nat} {P : V → Prop}
theorem evx_call (h : EvA t σ H vs) (hs : SpX sp (vs ++ []) H P) : EvX (tCall sp [] E t) σ H P := fun H1 e Q q =>
  h H1 e _ fun H2 e2 => hs H2 (e.trans e2) Q (fun v H3 e3 h3 => q v H3 (e2.trans e3) h3) E
theorem q_asgX (h : EvX te σ H P) (k : ∀ v H1, Ex H H1 → P v → tz D (σ.set i (some v)) H1) : tSeq (tAsg te (gName i)) tz D σ H :=
  h H (Ex.refl H) _ fun v H1 e1 h1 => k v H1 e1 h1
/-- a comprehension over a new tuple -/
theorem el_lcNT {j : Nat} {ws : List Nat} (f : Nat → Bool) (v : Nat → V) (h : EvU tl σ H xs) (hz : xs.length ≤ 40000) (hw : ∀ x, wipe ((wipe σ ws).set j (some x)) ws = wipe σ ws)
    (ht : ∀ (i : Nat) (x : V) H1, Ex H H1 → xs[i]? = some x → EvT tt ((wipe σ ws).set j (some x)) H1 (f i)) (he : ∀ (i : Nat) (x : V) H1, Ex H H1 → xs[i]? = some x → f i = true → Ev te ((wipe σ ws).set j (some x)) H1 (v i)) :
    EvL (tLc (iTup K tl) (gName j) tt te ws) σ H (given xs.length f v) := fun H0 e Q q => h H0 e _ fun a H1 ha e1 h1 => ⟨a, rfl, ⟨xs, st_of h1⟩, fun Dl hD =>
  lc_tup (xs := xs) (Cw H1 f v Dl) ⟨hD, Ex.new hD, upd_same⟩ (fun i H' _ p => st_of (p.2.1 _ _ h1)) (fun i x H' hi p => ⟨hw x, cw_turn p (by have := (List.getElem?_eq_some_iff.mp hi).1; omega) (ht i x H1 (e.trans e1) hi) (fun hf => he i x H1 (e.trans e1) hi hf)⟩)
    (fun H' p => q Dl H' (fresh_back e1 p.1) (e1.trans p.2.1) p.2.2)⟩
variable {a : Addr} {d n : Nat}
theorem sw_ifB (h : EvW a d te σ H (fun v => ∃ b, v = .bl b)) (w : Well H a n) (l : n + d ≤ 2 ^ 50) (k1 : ∀ H1, But a H H1 → Well H1 a (n + d) → tu D σ H1)
    (k2 : ∀ H1, But a H H1 → Well H1 a (n + d) → tw D σ H1) : tIfS (tTest te) tu tw D σ H :=
  h n H (But.refl a H) w l _ fun v H2 b2 w2 ⟨b, e⟩ => ⟨b, e, by
    cases b with
    | true => exact iteT (k1 H2 b2 w2)
    | false => exact iteF (k2 H2 b2 w2)⟩
end
end Bk
namespace Bk
open PySem PySem.Spec PyProof.Rows L2 Evl
/-! ### an own error class whose __init__ says super().__init__('..') and keeps one field -/
/-- the def of a class, by its place in the class -/
def clsDef (st : Stmt) (i : Nat) : Stmt := match st with
  | .ClassDef _ _ _ b _ _ _ _ _ _ _ => b.getD i (.Pass ⟨0, 0, 0, 0⟩)
  | s => s
/-- the names of such an __init__ -/
structure SupS (f : Str) (sc : Scope) : Prop where
  kind : sc.kind = .function
  co : sc.isCoroutine = false
  gen : sc.isGenerator = false
  nocell : ∀ x ∈ sc.names, x.2 ≠ .cell
  free : ∀ x ∈ sc.names, x.2 = .free → x.1 = "__class__"
  self : sc.names.lookup ("self" : Str) = some .local
  field : sc.names.lookup f = some .local
  sup : sc.names.lookup ("super" : Str) = some .globalImplicit
  cls : sc.names.lookup ("__class__" : Str) = some .free
  fs : f ≠ "self"
  fd : (f == ("__debug__" : Str)) = false
  fc : (f == ("__classdict__" : Str)) = false
structure SupC (P : Program) (K : PySem.W.Frag) (mg : Str → Option Value) (C fI : Addr) (fd : FuncData) (f : Str) (st : Stmt) : Prop where
  ox : OexC K C
  iC : PySem.W.findIn K (.ref C) "__init__" = some (some (.ref fI))
  tI : PySem.W.typeIn K (.ref fI) = some (.type "function")
  nf : PySem.W.findIn K (.ref C) f = some none
  up : PySem.W.ks_superIn K C C "__init__" = some (some (.builtin "ValueError.__init__"))
  sB : PySem.W.subIn K (.ref C) (.type "ValueError") = some true
  sC : PySem.W.mroIn K C (.ref C) = some true
  no : PySem.W.nsIn K cStatics "thirdparty.any" = some none
  gS : mg "super" = none
  fn : ∃ qual oc od kV doc pm an cda ct cc osl cl cld csl ccl cdd ccs vs file tf, fd = PySem.W.fnX "__init__" qual (defArgs st) (defBody st) (defScope st) [("__class__", cc)] .none kV doc pm an (.ref cda) ct ∧
    K.lookup fI = some ⟨oc, od, .func fd, osl⟩ ∧ PySem.W.codeIn K (.ref cda) qual = true ∧
    K.lookup cc = some ⟨cl, cld, .cell (some (.ref C)), csl⟩ ∧ K.lookup cda = some ⟨ccl, cdd, .fields vs, ccs⟩ ∧ vs[2]? = some (.str file tf) ∧ ((P.main.file : Str) == file) = true
  top : (P.main.scope.names.lookup ("super" : Str)).isSome = false
  arg : ∃ ar, ((defArgs st).posonlyargs ++ (defArgs st).args).head? = some ar ∧ ar.arg = "self"
  body : ∃ p0 p1 p2 p3 p4 p5 p6 p7 p8 p9 m j, defBody st = [.Expr (.Call (.Attribute (.Call (.Name "super" p0) [] [] p1) "__init__" p2) [.Constant (.str m) j p3] [] p4) p5, .Assign [.Attribute (.Name "self" p6) f p7] (.Name f p8) p9] ∧
    (∀ env, ∃ pl : Sem Bool, eval (.Call (.Attribute (.Call (.Name "super" p0) [] [] p1) "__init__" p2) [.Constant (.str m) j p3] [] p4) env = (do
      let ov ← attributeBase (.Call (.Name "super" p0) [] [] p1) "__init__" env (eval (.Call (.Name "super" p0) [] [] p1) env)
      standAt p2.atName
      let (g, first) ← holding [ov] (getMethod ov "__init__" pl)
      callWith p4 g first (backTo p4 (starEach [.Constant (.str m) j p3] env)) [])) ∧
    ∀ env, swapsWith (.Name f p8) (some (.Attribute (.Name "self" p6) f p7)) p9.line env = pure false
  sc : SupS f (defScope st)

/-- the promise: the error gets its dict -/
def sp_sup (C : Addr) (f : Str) : Sp := fun vs H Q _ => ∃ (a : Addr) (v : V), vs = [.ref a, v] ∧ H a = some (exo a C none) ∧ ∀ dx, H dx = none → dx ≠ a → Q .non (upd (upd H dx (exd dx [(f, v)])) a (exo a C (some dx)))

section
variable {P : Program} {w : World} {K : PySem.W.Frag} {mg : Str → Option Value} {base : Heap} {C fI : Addr} {fd : FuncData} {f : Str} {st : Stmt}
/-- the frame of that def -/
def cxSup (P : Program) (w : World) (K : PySem.W.Frag) (mg : Str → Option Value) (base : Heap) (f : Str) (fd : FuncData) (fI : Addr) (A : Around) (out : List Env) (s : Shared) (H : Hp) (xe : Value → Shared → Prop) : Cx where
  prog := P
  w := w
  K := K
  mg := mg
  base := base
  A := A.deeper (callEnv fd s.heap.objs.size fI)
  N := ["self", f]
  s_0 := s
  H_0 := H
  env := callEnv fd s.heap.objs.size fI
  outer := out
  stack := callEnv fd s.heap.objs.size fI :: out
  ex := []
  fn := fun x => decide (x ≠ "__class__")
  calm := true
  pn := []
  xe := xe
theorem look1 {cc c : Addr} {x : Str} (h : ([(("__class__" : Str), cc)] : List (Str × Addr)).lookup x = some c) : x = "__class__" ∧ c = cc := by
  by_cases e : x = ("__class__" : Str)
  · subst e
    have z : some cc = some c := h
    exact ⟨rfl, (Option.some.inj z).symm⟩
  · have e' : (x == ("__class__" : Str)) = false := by simpa using e
    simp [List.lookup, e'] at h
theorem lkA {x f : Str} {u0 u1 : Value} (h : f ≠ x) : List.lookup x [(f, u1), (x, u0)] = some u0 := by
  have e : (x == f) = false := by simpa using Ne.symm h
  simp [List.lookup, e]
theorem lkB {x f : Str} {u0 u1 : Value} : List.lookup f [(f, u1), (x, u0)] = some u1 := by simp [List.lookup]
theorem two_of {vs : List V} {us : List Value} (r : Vals vs us) (hl : us.length = 2) : ∃ u0 u1 v0 v1, us = [u0, u1] ∧ vs = [v0, v1] ∧ RelV v0 u0 ∧ RelV v1 u1 := by
  cases r with
  | nil => cases hl
  | cons r0 r' =>
    cases r' with
    | nil => cases hl
    | cons r1 r'' =>
      cases r'' with
      | nil => exact ⟨_, _, _, _, rfl, rfl, r0, r1⟩
      | cons _ _ => simp at hl
theorem inv_sup {A : Around} {out : List Env} {s : Shared} {H : Hp} {xe : Value → Shared → Prop} {h₀ : Heap} {t : Nat} (S : SupC P K mg C fI fd f st)
    (hd : A.handled = none) (e0 : Env0 P w K mg base A out s H) {u0 u1 : Value} {v0 v1 : V} (r0 : RelV v0 u0) (r1 : RelV v1 u1) (hn : h₀.Ns s.heap.objs.size (fun x => List.lookup x [(f, u1), (("self" : Str), u0)])) (k : ∀ b o, s.heap.get? b = some o → h₀.get? b = some o) :
    Inv (cxSup P w K mg base f fd fI A out s H xe) [] [some v0, some v1] H { s with heap := h₀, toks := t } := by
  obtain ⟨qual, oc, od, kV, doc, pm, an, cda, ct, cc, osl, cl, cld, csl, ccl, cdd, ccs, us', file, tf, rfl, h2, h3, h4, _⟩ := S.fn
  have SC := S.sc
  have hK : K.In s.heap := e0.mod.kin.keeps fun b o e => (e0.bs b o e).1
  have hcc := e0.mod.kin _ _ h4
  have noA : ∀ b : Addr, b ∉ (cxSup P w K mg base f (PySem.W.fnX "__init__" qual (defArgs st) (defBody st) (defScope st) [("__class__", cc)] .none kV doc pm an (.ref cda) ct) fI A out s H xe).ex := fun b z => absurd (show b ∈ ([] : List Addr) from z) (by simp)
  refine ⟨⟨e0.mod, SC.kind, rfl, rfl, Nat.le_refl _, fun y z c h1 h2 => ?_, fun y hy => ?_, fun y c hy h => ?_, fun _ => hd, Around.frames_deeper e0.frames, .inr ⟨rfl, rfl⟩, fun b z => absurd z (noA b), e0.bs, e0.bsz, fun b _ _ => noA b, fun b z => absurd z (noA b), e0.funs, e0.frf⟩,
    rfl, e0.bare, Un.kept k, ⟨_, hn, fun i y v h1 h2 h3 => ?_⟩, fun y c h => ?_, e0.hok.fresh (Nat.le_refl _), fun y c h => ?_, fun p hp => absurd (show p ∈ ([] : List (Addr × Obj)) from hp) (by simp), e0.hok.kept k, ?_⟩
  · rw [(look1 h1).1, (look1 h2).1]
  · have hy : (defScope st).names.lookup y = some .cell ∨ (defScope st).names.lookup y = some .free := hy
    rcases hy with hy | hy
    · exact absurd rfl (SC.nocell _ (PySem.mem_of_lookup hy))
    · have e : y = ("__class__" : Str) := SC.free _ (PySem.mem_of_lookup hy) rfl
      rw [e]
      exact ⟨cc, rfl⟩
  · have e := (look1 h).1
    exact absurd e (of_decide_eq_true hy)
  · match i, h1, h2 with
    | 0, h1, h2 =>
      have ey := Option.some.inj h1
      have ev := Option.some.inj (Option.some.inj h2)
      subst ey ev
      exact ⟨u0, r0, .inl ⟨SC.self, lkA SC.fs⟩⟩
    | 1, h1, h2 =>
      have ey := Option.some.inj h1
      have ev := Option.some.inj (Option.some.inj h2)
      subst ey ev
      exact ⟨u1, r1, .inl ⟨SC.field, lkB⟩⟩
    | i + 2, h1, h2 => cases h1
  · obtain ⟨e1, e2⟩ := look1 h
    subst e1 e2
    exact ⟨_, _, k _ _ (e0.bs _ _ hcc).1, rfl⟩
  · obtain ⟨e1, e2⟩ := look1 h
    subst e1 e2
    exact (e0.bs _ _ hcc).2
  · rfl
/-- ValueError.__init__ held by a method-wrapper, called: the error stays one -/
theorem wrap_call {X : Cx} {pins : List (Addr × Obj)} {σ : L2.St} {H : Hp} {s : Shared} {u a : Addr} {v : Value} {Q : Value → Shared → Prop} {E : Value → Shared → Prop} (T : OexC X.K C) (I : Inv X pins σ H s) (hu : s.heap.get? u = some (PySem.W.kxs_mw "ValueError.__init__" a)) (e : H a = some (exo a C none))
    (k : ∀ s', Inv X pins σ H s' → Q .none s') : wpAny (model X.prog X.w) X.A (call (.ref u) [v]) Q E s := by
  obtain ⟨nm, q, N, bs, bm, sn, sub, ab, col, dd, k0, k1, k2, k3, k5, hC, hbm⟩ := T.cls
  obtain ⟨t1, ho⟩ := exo_at I.hok e
  have hCs := I.kIn _ _ hC
  obtain ⟨hh, g, d, tk, os⟩ := s
  have nmeth : (Value.type "method-wrapper" == Value.type "method" || Value.type "method-wrapper" == Value.type "builtin_function_or_method" || Value.type "method-wrapper" == Value.type "method-wrapper") = true := by decide
  refine wpAny_call (codeAny_of_tree ?_)
  show wpAny _ X.A.in1 (callAny (.ref u) ⟨[v], []⟩) _ _ _
  simp only [callAny]
  refine wpAny_bind (wpAny_load hu ?_)
  simp only [PySem.W.kxs_mw, nmeth, if_true]
  refine PySem.W.KFB.if_so (by decide) ?_
  refine wpAny_bind (PySem.W.check_bound_init F.excBase_ValueError.toExcCallFacts hCs ho rfl ?_)
  refine wpAny_bind (wpAny_pure (wpAny_pure ⟨plainId_quiet F.excBase_ValueError.init.plain _, codeAny_builtin F.excBase_ValueError.initEntry ?_⟩))
  have go : ∀ h', (∀ b o, b ≠ a → hh.get? b = some o → h'.get? b = some o) → h'.get? a = some (PySem.W.excObj C hh.objs.size none .none) → Q .none ⟨h', g, d, tk, os⟩ := fun h' kk hx => by
    have J := I.write (t' := tk) (x := a) (e := a) (o := exo a C none) (by rw [e]; exact True.intro) (.inl rfl) kk ⟨_, hx⟩ (exo_ok hx)
    have eu : upd H a (exo a C none) = H := by
      funext b
      by_cases hb : b = a
      · rw [hb, upd_same, e]
      · rw [upd_ne hb]
    rw [eu] at J
    exact k _ J
  exact PySem.W.exc_init_tree (cls := .ref C) (t0 := t1) (dv := none) (c2 := .none) (c3 := .none) (b4 := .bool false) ho (by show 1 ≤ sizeLine; rw [sizeLine_eq]; omega) fun h' kk hx _ => go h' kk hx

theorem sup_ok (S : SupC P K mg C fI fd f st) : FnOk P w K mg base CX0 1 fI fd ["self", f] (sp_sup C f) := by
  refine ⟨fun vs H Q E ⟨a, v, e, _⟩ => by rw [e]; rfl, ?_⟩
  intro A out s H args us vs Q E hr e0 hb rv hsp
  obtain ⟨a, v, rfl, ea, q⟩ := hsp
  obtain ⟨u0, u1, v0, v1, rfl, ev, r0, r1⟩ := two_of rv (by rw [← rv.length]; rfl)
  obtain rfl : v0 = V.ref a := (List.cons.inj ev).1.symm
  obtain rfl : v1 = v := ((List.cons.inj (List.cons.inj ev).2).1).symm
  obtain rfl : u0 = Value.ref a := r0
  have SC := S.sc
  have hK : K.In s.heap := e0.mod.kin.keeps fun b o e => (e0.bs b o e).1
  have noL : s.heap.NoLimit := e0.mod.nolimit.keeps fun b o e => (e0.bs b o e).1
  obtain ⟨qual, oc, od, kV, doc, pm, an, cda, ct, cc, osl, cl, cld, csl, ccl, cdd, ccs, ws, file, tf, efd, h2, h3, h4, h5, h6, h7⟩ := S.fn
  have hkk : fd.scope.kind = .function := by rw [efd]; exact SC.kind
  have bz : ((["self", f] : List Str).zip [Value.ref a, u1]) = [(("self" : Str), Value.ref a), (f, u1)] := rfl
  rw [bz] at hb
  refine ks_codeAny_call_defAt (fd := fd) (body := defBody st) (binds := [(("self" : Str), Value.ref a), (f, u1)]) hr.depth (hK _ _ h2) rfl noL (by rw [efd]; exact PySem.W.codeRec_of hK h3) (by rw [efd]) hb (by rw [efd]; exact SC.nocell) ?_ (fun h₀ hn k => ?_) (by rw [efd]; exact SC.co) (by rw [efd]; exact SC.gen) hkk
  · intro y hy
    rw [efd]
    rcases List.mem_cons.mp hy with e | hy
    · rw [e]
      exact SC.self
    · rw [List.mem_singleton.mp hy]
      exact SC.field
  have I := inv_sup (base := base) (w := w) (f := f) (fd := fd) (A := A) (out := out) (h₀ := h₀) (t := s.toks + 2) (xe := fun e s' => wpAny (model P w) (A.deeper (callEnv fd s.heap.objs.size fI)) (leaving (callEnv fd s.heap.objs.size fI) e) (fun _ s'' => CR CX0 out P w H s Q E (.error e) s'') (fun e' s'' => CR CX0 out P w H s Q E (.error e') s'') s') S hr.hd e0 (u0 := Value.ref a) (v0 := V.ref a) rfl r1 hn k
  generalize hX : cxSup P w K mg base f fd fI A out s H _ = X at I
  have xP : X.prog = P := by rw [← hX]; rfl
  have xw : X.w = w := by rw [← hX]; rfl
  have xK : X.K = K := by rw [← hX]; rfl
  have xm : X.mg = mg := by rw [← hX]; rfl
  have xA : X.A = A.deeper (callEnv fd s.heap.objs.size fI) := by rw [← hX]; rfl
  have xe : X.env = callEnv fd s.heap.objs.size fI := by rw [← hX]; rfl
  have xN : X.N = [("self" : Str), f] := by rw [← hX]; rfl
  have sc : X.env.scope = defScope st := by rw [xe, efd]; rfl
  have cl : X.env.cells = [(("__class__" : Str), cc)] := by rw [xe, efd]; rfl
  have fin : ∀ (fl : Flow) (s' : Shared), SP X [] { nx := fun _ H' => Q .non H', rt := Q } fl s' → CR CX0 out P w H s Q E (.ok (.ret (match fl with | .ret v => v | _ => .none))) s' := fun fl s' hs => by
    have un : ∀ {σ' : L2.St} {H' : Hp}, Inv X [] σ' H' s' → s'.os = s.os ∧ AllBare s'.gens ∧ Un (frs out) [] H H' s.heap s'.heap ∧ HOk P w H' s'.heap := fun J => by
      subst hX
      exact ⟨J.os, J.bare, J.base, J.hok⟩
    cases fl with
    | next =>
      obtain ⟨σ', H', J, q'⟩ := hs
      obtain ⟨a1, a2, a3, a4⟩ := un J
      exact ⟨.non, H', a1, a2, a3, a4, rfl, q'⟩
    | ret u =>
      obtain ⟨v', σ', H', J, rr, q'⟩ := hs
      obtain ⟨a1, a2, a3, a4⟩ := un J
      exact ⟨v', H', a1, a2, a3, a4, rr, q'⟩
    | brk =>
      obtain ⟨_, _, _, q'⟩ := hs
      exact q'.elim
    | cont =>
      obtain ⟨_, _, _, q'⟩ := hs
      exact q'.elim
  have xx : X.xe = fun e s' => wpAny (model P w) (A.deeper (callEnv fd s.heap.objs.size fI)) (leaving (callEnv fd s.heap.objs.size fI) e) (fun _ s'' => CR CX0 out P w H s Q E (.error e) s'') (fun e' s'' => CR CX0 out P w H s Q E (.error e') s'') s' := by rw [← hX]; rfl
  refine ks_wpAt_mono (Q := SP X [] { nx := fun _ H' => Q .non H', rt := Q }) (E := X.xe) ?_ (fun fl s' hs => fin fl s' hs) (fun e s' hs => by rw [xx] at hs; exact hs)
  rw [← xA, ← xe, ← xP, ← xw]
  clear fin xx
  have hcc := e0.mod.kin _ _ h4
  obtain ⟨p0, p1, p2, p3, p4, p5, p6, p7, p8, p9, m, j, eb, ehe, esw⟩ := S.body
  obtain ⟨pl, he⟩ := ehe X.env
  have hsw := esw X.env
  obtain ⟨ar, har, ear⟩ := S.arg
  rw [eb]
  have hKX := I.kIn
  rw [xK] at hKX
  have hks : X.env.kindOf "super" = some .globalImplicit := by
    show X.env.scope.names.lookup _ = _
    rw [sc]
    exact SC.sup
  have hkc : X.env.kindOf "__class__" = some .free := by
    show X.env.scope.names.lookup _ = _
    rw [sc]
    exact SC.cls
  have hkse : X.env.kindOf "self" = some .local := by
    show X.env.scope.names.lookup _ = _
    rw [sc]
    exact SC.self
  have hlv : X.env.scope.kind = .function := I.ok.kind
  obtain ⟨mL, hnL, hlook⟩ := I.loc
  have hself : mL "self" = some (Value.ref a) := by
    obtain ⟨u, ru, q'⟩ := hlook 0 "self" (.ref a) (by rw [xN]; rfl) rfl (.inl hkse)
    obtain rfl : u = Value.ref a := ru
    rcases q' with ⟨_, e⟩ | ⟨hk', _⟩
    · exact e
    · rcases hk' with hk' | hk' <;> (rw [hkse] at hk'; cases hk')
  obtain ⟨t1, ho⟩ := exo_at I.hok ea
  obtain ⟨nm, qc, Nc, bs, bm, sn, sub, ab, col, dd, k0, k1, k2, k3, k5, hC, hbm⟩ := S.ox.cls
  have hCs := hKX _ _ hC
  have hfi := hKX _ _ h2
  have efn : X.env.func = some fI := by rw [xe, efd]; rfl
  have eco : X.env.code = .ref cda := by rw [xe, efd]; rfl
  refine ks_wpAt_execs_cons (ks_wpAt_Expr_any (ks_wpAt_MethodCall (pl := pl) ?_ he) I.quiet)
  refine ks_wpAt_super_base (of := ⟨oc, od, .func fd, osl⟩) (fd := fd) (ar := ar) hks hkc rfl efn hfi rfl (by rw [efd]; exact har) eco (hKX _ _ h5) rfl h6 (by rw [xP]; exact h7) (by rw [xP]; exact S.top) ?_
  refine PySem.W.ks_loadName_global hlv hks (Calls.loadGlobal_builtin (by rw [I.ok.glob]; exact I.mod.glob.keeps I.bk) (by rw [xm]; exact S.gS) (by rw [I.ok.blt]; exact I.mod.blt.choose_spec.1.keeps I.bk) ((I.mod.blt.choose_spec.2 _ (by decide)).trans (by decide +kernel)) ⟨rfl, ?_⟩)
  have hcl : X.env.cells.lookup ("__class__" : Str) = some cc := by rw [cl]; rfl
  refine wpAny_loadName_free hlv hkc hcl ⟨_, hKX _ _ h4, rfl⟩ ?_
  rw [ear]
  refine wpAny_loadName_local hlv hkse hnL hself ?_
  refine ks_wpAny_isType_cls hCs rfl ⟨rfl, ?_⟩
  refine ks_wpAny_call_super hCs rfl ho rfl (fun c z => by cases z) (PySem.W.looks_mroIn hKX S.sC) (fun h' e' k' => ?_)
  have hcd : PySem.W.clsIn K C = some { name := nm, bases := bs, mro := .ref C :: bm, ns := Nc, qualname := qc, hasDict := true, slotNames := sn, subclasses := sub, abstract := ab, collection := col, hasDel := false } := by
    unfold PySem.W.clsIn
    rw [hC] <;> rfl
  have hup := S.up
  unfold PySem.W.ks_superIn at hup
  rw [hcd] at hup
  have I1 : Inv X [] [some (.ref a), some v1] H { heap := h', gens := s.gens, drawn := s.drawn, toks := s.toks + 2, os := s.os } := I.kept (t' := s.toks + 2) k'
  have hK1 := I1.kIn
  rw [xK] at hK1
  have hI : PySem.W.Looks (model X.prog X.w) h' (isInstance (.ref a) (.type "ValueError")) true := (PySem.W.InstAt.type (od := none) ⟨k' _ _ ho, rfl, rfl, trivial⟩).andThen (PySem.W.looks_subIn hK1 S.sB)
  have aC : a ≠ C := fun z => by
    rw [z] at ho
    rw [ho] at hCs
    cases hCs
  refine PySem.W.kxs_getMethod PySem.W.kxs_ValueError e' (PySem.W.looks_opaque hK1 S.no) (l₀ := .ref C :: bm) (fun A Q E s k q => wpAny_bind ((PySem.W.looks_clsIn hK1 hcd) A _ E s k (wpAny_pure q))) rfl hK1 hup hI aC (by decide) ?_
  have I2 : Inv X [(h'.objs.size, PySem.W.kxs_mw "ValueError.__init__" a)] [some (.ref a), some v1] H { heap := h'.push (PySem.W.kxs_mw "ValueError.__init__" a), gens := s.gens, drawn := s.drawn, toks := s.toks + 2 + 1, os := s.os } := by
    refine (I1.kept (t' := s.toks + 2 + 1) (h' := h'.push (PySem.W.kxs_mw "ValueError.__init__" a)) fun b o z => Heap.get?_push_of_some _ z).pins_of fun p hp => ?_
    rw [List.mem_singleton.mp hp]
    exact ⟨Heap.get?_push_size _ rfl, I1.hok.fresh (Nat.le_refl _), Nat.ne_of_gt I1.lt, I1.nofs (Nat.le_refl _), fun v z => by cases z⟩
  refine PySem.W.kxs_callWith (i := "ValueError.__init__") (x := a) rfl (PySem.Calls.evalArgs_plain (thn ((pa_cons pe_str pa_nil : PA X [.Constant (.str m) j p3] _).run p4 _ _ _ H (fun vs H1 => vs = [V.str m] ∧ H1 = H) I2 ⟨rfl, rfl⟩) fun us s3 hh => ?_))
  obtain ⟨vs3, H3, I3, r3, rfl, rfl⟩ := hh
  obtain ⟨u3, rfl, _⟩ := vals1 r3
  have hpin := (I3.pin (h'.objs.size, PySem.W.kxs_mw "ValueError.__init__" a) (List.mem_append_right _ List.mem_cons_self)).1
  refine ⟨hpin, wrap_call (by rw [xK]; exact S.ox) I3 hpin ea fun s4 J => ?_⟩
  have J' : Inv X [] [some (.ref a), some v1] H3 s4 := J.pins_of fun p hp => nomatch hp
  refine wpAt_of_wpAny ((pss_one (ps_ost (X := X) (pe_var (i := 0) (by rw [xN]; rfl) (.inl hkse) (by decide) (by decide)) (pe_var (i := 1) (by rw [xN]; rfl) (.inl (by rw [sc]; exact SC.field)) SC.fd SC.fc) hsw)).run [] s4 _ H3 _ J' ?_)
  exact ⟨v1, rfl, .ref a, rfl, a, C, rfl, by rw [xK]; exact S.ox, by rw [xK]; exact S.nf, .inl ⟨ea, fun dx n ne => q dx n ne⟩⟩
end
end Bk
namespace Bk
open PySem PySem.Spec PyProof.Rows L2 Evl
/-! ### an error class of the program, and what is known of it -/
structure ErrK (K : PySem.W.Frag) (mg : Str → Option Value) (nm : Str) (C : Addr) : Prop where
  g : mg nm = some (.ref C)
  k : PySem.W.keepIn K (.ref C) = true
  t : PySem.W.typeIn K (.ref C) = some (.type "type")
  s : PySem.W.subIn K (.ref C) (.ref C) = some true
  v : PySem.W.subIn K (.ref C) (.type "ValueError") = some true
  ex : ExcC K C
theorem err_mk {K : PySem.W.Frag} {h : Heap} {mg : Str → Option Value} {nm : Str} {C : Addr} (X : K.In h) (G : h.Ns mainGlobals mg) (a : PySem.W.nsIn K mainGlobals nm = some (some (.ref C))) (k : PySem.W.keepIn K (.ref C) = true)
    (t : PySem.W.typeIn K (.ref C) = some (.type "type")) (s : PySem.W.subIn K (.ref C) (.ref C) = some true) (v : PySem.W.subIn K (.ref C) (.type "ValueError") = some true)
    (e1 : PySem.W.findIn K (.ref C) "__getattribute__" = some (some (.builtin "BaseException.__getattribute__"))) (e2 : PySem.W.findIn K (.ref C) "__getattr__" = some none) (e3 : PySem.W.subIn K (.ref C) (.type "BaseException") = some true) (e4 : PySem.W.hasDictIn K C = true)
    (e5 : PySem.W.findIn K (.ref C) "__class__" = some (some (.builtin "object.__class__"))) (e6 : PySem.W.specialIn K (.builtin "object.__class__") "__get__" = some (some (.builtin "getset_descriptor.__get__"))) (e7 : PySem.W.takesIn K (.builtin "object.__class__") = some true)
    (e8 : PySem.W.mroIn K C (.type "object") = some true) : ErrK K mg nm C :=
  ⟨PySem.W.mg_of X G a, k, t, s, v, ⟨e1, e2, e3, e4, e5, e6, e7, e8⟩⟩
section
variable {K : PySem.W.Frag} {mg : Str → Option Value} {nm nd : Str} {C D : Addr} {b : Bool}
theorem ErrK.cls (x : ErrK K mg nm C) : (PySem.W.clsIn K C).isSome = true := by
  obtain ⟨cd, hc, _⟩ := PySem.W.any_some x.ex.hd
  rw [hc]
  rfl
/-- an error of D where C is named by a clause -/
theorem ErrK.exm (x : ErrK K mg nm C) (h : PySem.W.subIn K (.ref D) (.ref C) = some b) : PySem.W.exmOne K (.ref D) (.ref C) = some b := PySem.W.exm_ref x.ex.hs x.ex.hd x.t h
theorem ErrK.kit (x : ErrK K mg nm C) (h : PySem.W.subIn K (.ref D) (.ref C) = some b) : PySem.W.kitOne K (.ref D) (.ref C) = some b := by
  unfold PySem.W.kitOne
  by_cases e : D = C
  · subst e
    rw [if_pos (by simp), ← h, x.s]
  · rw [if_neg (by simpa using e)]
    show (if ((PySem.W.clsIn K C).isSome && PySem.W.typeIn K (.ref C) == some (.type "type")) = true then PySem.W.subIn K (.ref D) (.ref C) else none) = some b
    rw [x.cls, x.t, h]
    rfl
theorem ErrK.kitV (x : ErrK K mg nm C) : PySem.W.kitOne K (.ref C) (.type "ValueError") = some true := by
  unfold PySem.W.kitOne
  rw [if_neg (by simp)]
  show (if PySem.W.kitMeta "ValueError" = true then _ else none) = some true
  rw [if_pos (by decide +kernel)]
  exact x.v
theorem ErrK.kitN (x : ErrK K mg nm C) : PySem.W.kitOne K (.type "NoneType") (.ref C) = some false := by
  unfold PySem.W.kitOne
  rw [if_neg (by simp)]
  show (if ((PySem.W.clsIn K C).isSome && PySem.W.typeIn K (.ref C) == some (.type "type")) = true then PySem.W.subIn K (.type "NoneType") (.ref C) else none) = some false
  rw [x.cls, x.t]
  have e : PySem.fastBuiltinMro "NoneType" = some [Value.type "NoneType", Value.type "object"] := by decide +kernel
  show (PySem.fastBuiltinMro "NoneType").map (·.contains (.ref C)) = some false
  rw [e]
  rfl
theorem kb_none_value : kitB "NoneType" "ValueError" = some false := by decide +kernel
end
/-! ### raise C(e), C with the __init__ of P19 -/
section
variable {X : Cx} {C fI : Addr} {fd : FuncData} {f x : Str} {st : Stmt} {e : Expr} {te : TE} {p pos : Pos}
theorem pmk_sup (S : SupC X.prog X.K X.mg C fI fd f st) (hb : Binds X.K fd ["self", f] []) (hr : Room 2 X.A) (hg : Gl X x) (hm : X.mg x = some (.ref C)) (ha : PA X [e] (tCons te tNil)) (hdb : (x == ("__debug__" : Str)) = false := by decide)
    (hst : starEach [e] X.env = (false, eval e X.env) :: starEach [] X.env := by rfl) : PMk X (.Call (.Name x p) [e] [] pos) (tMkO C (sp_sup C f) [] (tCons te tNil)) :=
  pmk_oex (CX := CX0) (k := 1) S.ox S.iC S.tI (sup_ok S) hr hb .nil (fun _ _ _ _ _ _ _ z => z.elim) hg hm ha hdb hst rfl
theorem mk_ev {σ : L2.St} {H : Hp} {v : V} {Q : XK} (h : Ev te σ H v) (q : ∀ H1 d, Ex H H1 → H1 d = none → Q (.ref C) (some d) (upd H1 d (.xd [(f, v)]))) : tMkO C (sp_sup C f) [] (tCons te tNil) σ H Q :=
  h H (Ex.refl H) _ fun H1 e1 => ⟨by show 1 ≤ 1000; decide, fun a ha => ⟨a, v, rfl, upd_same, fun dx hdx ne => ⟨rfl, dx, [(f, v)], upd_same, by rw [upd_ne ne, upd_same], by rw [upd_ne ne] at hdx; exact hdx, by
    have hd : H1 dx = none := by rw [upd_ne ne] at hdx; exact hdx
    have eq : upd (del (upd (upd (upd H1 a (exo a C none)) dx (exd dx [(f, v)])) a (exo a C (some dx))) a) dx (.xd [(f, v)]) = upd H1 dx (.xd [(f, v)]) := by
      funext b
      by_cases c : b = dx
      · rw [c, upd_same, upd_same]
      · rw [upd_ne c, upd_ne c]
        by_cases c2 : b = a
        · rw [c2, del_same, ha]
        · rw [del_ne c2, upd_ne c2, upd_ne c, upd_ne c2]
    rw [eq]
    exact q H1 dx e1 hd⟩⟩⟩
end
/-! ### an error that was caught and is kept -/
def ExK (cls : Value) (d : Option Addr) (a : Addr) : HO := .ext fun h => ∃ (oe : Obj) (vs : Array Value), h.get? a = some oe ∧ Zc cls d oe ∧ oe.data = .fields vs
theorem exk_ok {P : Program} {w : World} {H : Hp} {h : Heap} {a : Addr} {cls : Value} {d : Option Addr} {oe : Obj} {vs : Array Value} (e : h.get? a = some oe) (z : Zc cls d oe) (hd : oe.data = .fields vs) : ObjOk P w H h a (ExK cls d a) :=
  ⟨⟨oe, vs, e, z, hd⟩, ⟨oe, e⟩, fun _ _ ⟨o, v, q, r⟩ k => ⟨o, v, k o q, r⟩⟩
theorem exk_at {P : Program} {w : World} {H : Hp} {h : Heap} {a : Addr} {cls : Value} {d : Option Addr} (hok : HOk P w H h) (e : H a = some (ExK cls d a)) : ∃ (oe : Obj) (vs : Array Value), h.get? a = some oe ∧ Zc cls d oe ∧ oe.data = .fields vs := by
  have x : ObjOk P w H h a (.ext fun h => ∃ (oe : Obj) (vs : Array Value), h.get? a = some oe ∧ Zc cls d oe ∧ oe.data = .fields vs) := hok a _ e
  exact x.1
section
variable {X : Cx} {pins : List (Addr × Obj)} {σ : L2.St} {H : Hp} {s : Shared}
/-- an object that nobody tracks is taken up -/
theorem adopt {a : Addr} {oe : Obj} {vs : Array Value} {cls : Value} {d : Option Addr} (I : Inv X pins σ H s) (ha : s.heap.get? a = some oe) (z : Zc cls d oe) (hd : oe.data = .fields vs) (na : H a = none) (n0 : X.s_0.heap.get? a = none) (nL : a ≠ X.env.locals)
    (nP : ∀ p ∈ X.pn ++ pins, p.1 ≠ a) : Inv X pins σ (upd H a (ExK cls d a)) s := by
  have ne : ∀ {b : Addr} {o : HO}, H b = some o → b ≠ a := fun q => ne_of_none q na
  refine ⟨I.ok, I.os, I.bare, ⟨I.base.keep, I.base.slot, fun b o q n x => ?_, I.base.there, fun b xs q => ?_, fun b o u q => ?_, fun b ps q => ?_⟩, I.loc, I.cell, ?_, fun x c h => ?_, fun p hp => ?_, fun b o q => ?_, I.len⟩
  · rw [upd_ne fun z => by rw [z, n0] at q; cases q]
    exact I.base.free b o q n x
  · have r := I.base.tups b xs q
    rw [upd_ne (ne r)]
    exact r
  · have r := I.base.frzs b o u q
    rw [upd_ne (ne r)]
    exact r
  · obtain ⟨more, r⟩ := I.base.tbls b ps q
    exact ⟨more, by rw [upd_ne (ne r)]; exact r⟩
  · rw [upd_ne nL.symm]
    exact I.free
  · obtain ⟨v, o, ho, hv⟩ := I.cell x c h
    rw [upd_ne fun z => by
      rw [z, ha] at ho
      cases ho
      rw [hd] at hv
      cases hv]
    exact I.freeC x c h
  · obtain ⟨p1, p2, p3⟩ := I.pin p hp
    exact ⟨p1, by rw [upd_ne (nP p hp)]; exact p2, p3⟩
  · by_cases c : b = a
    · subst c
      rw [upd_same] at q
      cases q
      exact exk_ok ha z hd
    · rw [upd_ne c] at q
      exact (I.hok b o q).stay (fun _ _ _ r => r) (fun e r => by rw [upd_ne (ne r)]; exact r) fun e xs r => by rw [upd_ne (ne r)]; exact r
theorem suite0 (I : Inv X pins σ H s) (a : Addr) : Inv (X.suite a (X.pn ++ pins)) [] σ H s :=
  ⟨I.ok.suite _ _, I.os, I.bare, I.base, I.loc, I.cell, I.free, I.freeC, fun p hp => I.pin p (by rw [List.append_nil] at hp; exact hp), I.hok, I.len⟩
theorem unsuite0 {a : Addr} {pn' : List (Addr × Obj)} (I : Inv (X.suite a (X.pn ++ pins)) pn' σ H s) (ok : X.Ok) : Inv X pins σ H s :=
  ⟨ok, I.os, I.bare, I.base, I.loc, I.cell, I.free, I.freeC, fun p hp => I.pin p (List.mem_append_left _ hp), I.hok, I.len⟩
end
/-- what 'except x as n: suite' wishes where the error is kept -/
def wKept (K : PySem.W.Frag) (c : Value) (i : Nat) (ts : TS) (Wout : WX) (D : Ends) : WX := fun cls d σ H =>
  ∃ b, PySem.W.exmOne K cls c = some b ∧ (b = true → ∀ a, H a = none → ts { nx := fun σ' H' => D.nx (σ'.set i none) H', rt := D.rt, bk := fun σ' H' => D.bk (σ'.set i none) H', ct := fun σ' H' => D.ct (σ'.set i none) H' } (σ.set i (some (.ref a))) (upd H a (ExK cls d a))) ∧
    (b = false → Wout cls d σ H)
section
variable {X : Cx} {x n : Str} {c : Value} {i : Nat} {body suite : List Stmt} {first : Stmt} {np pos pos' : Pos} {tb : WX → TS} {ts : TS} {Wout : WX}
theorem ps_try_kept (hs : X.stack = X.env :: X.outer) (hf : X.env.frame = some X.env.locals) (hex : X.ex = []) (hN : X.N.Nodup) (hi : X.N[i]? = some n) (hln : X.env.kindOf n = some .local) (hc : Names X x c) (tk : Takes X Wout)
    (hb : ∀ (W : WX) (pn : List (Addr × Obj)) (xe : Value → Shared → Prop), Takes (X.tr pn xe) W → PassesOwn (model X.prog X.w) X.A X.env xe → PSs (X.tr pn xe) body (tb W))
    (hsu : ∀ (a : Addr) (pn : List (Addr × Obj)), PSs (X.suite a pn) (first :: suite) ts) :
    PS X (.Try body [.ExceptHandler (some (.Name x np)) (some n) (first :: suite) pos'] [] [] pos) (fun D σ H => tb (wKept X.K c i ts Wout D) D σ H) := by
  refine ⟨fun pins s σ H D I h => ?_⟩
  have ok0 := I.ok
  have frm : X.A.frames = some (X.env :: X.outer) := by rw [ok0.frames, hs]
  have isLoc : Loc X.env.scope n := .inl hln
  refine wpAny_Try_except ?_
  have run := (hb (wKept X.K c i ts Wout D) (X.pn ++ pins) (fun ev t1 => wpAny (model X.prog X.w) X.A (noteFrame ev X.env) (fun _ t2 => wpAny (model X.prog X.w) X.A (setFlight ev none) (fun _ t3 =>
    wpAny (model X.prog X.w) X.A (handleBy ev X.env [.ExceptHandler (some (.Name x np)) (some n) (first :: suite) pos']) (SP X pins D) X.xe t3) X.xe t2) X.xe t1) (fun u t' air => ?_) PassesOwn.looking).run [] s σ H D (I.toTry _) h
  · refine wpAny_mono run (fun fl t1 hfl => ?_) (fun _ _ he => he)
    cases fl with
    | next =>
      obtain ⟨σ', H', J, q⟩ := hfl
      exact wpAny_execs_nil ⟨σ', H', J.ofTry ok0, q⟩
    | brk =>
      obtain ⟨σ', H', J, q⟩ := hfl
      exact ⟨σ', H', J.ofTry ok0, q⟩
    | cont =>
      obtain ⟨σ', H', J, q⟩ := hfl
      exact ⟨σ', H', J.ofTry ok0, q⟩
    | ret u =>
      obtain ⟨v, σ', H', J, r, q⟩ := hfl
      exact ⟨v, σ', H', J.ofTry ok0, r, q⟩
  · obtain ⟨a, B, sJ, pins', σ', H', cls, d, rfl, Jt, nb, up, sky, na, eos, bare, b, hb1, hyes, hno⟩ := air
    have J : Inv X pins σ' H' sJ := Jt.ofTry ok0
    have skyE : Sky B (X.env :: X.outer) a (Zc cls d) X.env.locals t'.heap := by rw [← hs]; exact sky
    show wpAny (model X.prog X.w) X.A (noteFrame (.ref a) X.env) _ _ _
    refine Sky.land Zc.steady frm hf skyE fun g3 f3 u3 => ?_
    have J3 : Inv X pins σ' H' { t' with heap := g3 } := J.landed nb f3.1 (up.trans u3) eos bare
    obtain ⟨o3, v3, ho3, hz3, hd3⟩ := f3.there
    have notIn : ∀ {hh : Heap} {o : Obj} {vs : Array Value}, hh.FunFrames B (X.env :: X.outer) → hh.get? a = some o → o.data = .fields vs → a ∉ frs (X.env :: X.outer) := fun {hh o vs} ff e dd hm => by
      obtain ⟨_, o', e', nf⟩ := ff.mem hm
      rw [e] at e'
      cases e'
      exact nf _ dd
    have nfr := notIn f3.2.2.1 ho3 hd3
    have nL : a ≠ X.env.locals := fun z => nfr (List.mem_filterMap.mpr ⟨X.env, List.mem_cons_self, by rw [hf, z]⟩)
    have nJ : sJ.heap.get? a = none := by
      cases q : sJ.heap.get? a with
      | none => rfl
      | some o =>
        have r := nb a o q (by rw [show frs (X.tr (X.pn ++ pins) _).stack = frs (X.env :: X.outer) by rw [← hs]]; exact nfr)
        rw [f3.2.1] at r
        cases r
    have n0 : X.s_0.heap.get? a = none := by
      cases q : X.s_0.heap.get? a with
      | none => rfl
      | some o =>
        obtain ⟨o', r⟩ := J.base.there a o q (by rw [hex]; exact List.not_mem_nil)
        rw [nJ] at r
        cases r
    have nP : ∀ p ∈ X.pn ++ pins, p.1 ≠ a := fun p hp z => by
      have r := (J.pin p hp).1
      rw [z, nJ] at r
      cases r
    refine wpAny_handleBy_cons (codeAny_handlers_test ?_) (by intro q; cases q)
    have lt : PySem.W.Looks (model X.prog X.w) g3 (typeOf (.ref a)) cls := fun A Q E s k q => wpAny_typeOf_ref (k _ _ ho3) (by rw [hz3.1]; exact q)
    have lm := PySem.W.exm_one (M := model X.prog X.w) (J3.kIn) lt hb1
    have S3 := suite0 J3 a
    have asks : ∀ {Q : Value → Shared → Prop} {E : Value → Shared → Prop}, Q c { t' with heap := g3 } → wpAny (model X.prog X.w) (X.A.mark (some (.ref a))) (eval (.Name x np) X.env) Q E { t' with heap := g3 } := fun {Q E} q => by
      obtain ⟨hg, hdbg, hm | ⟨hm, hv, hnn⟩⟩ := hc
      · exact ld_glob (X := X.suite a (X.pn ++ pins)) S3 hg hm q hdbg
      · exact ld_blt (X := X.suite a (X.pn ++ pins)) S3 hg hm hv q hnn hdbg
    refine asks (lm.here ?_)
    cases b with
    | true =>
      refine codeAny_handlers_suite_as ?_
      refine HandSPX.lands_againZ f3 fun g4 f4 u4 => ?_
      have J4 : Inv X pins σ' H' { t' with heap := g4 } := J.landed nb f4.1 ((up.trans u3).trans u4) eos bare
      obtain ⟨o4, v4, ho4, hz4, hd4⟩ := f4.there
      have S4 := suite0 (adopt J4 ho4 hz4 hd4 na n0 nL nP) a
      refine store_ok (X := X.suite a (X.pn ++ pins)) (v := .ref a) S4 hN hi isLoc rfl (fun s5 S5 => ?_) (.inr hln)
      refine wpAny_mono ((hsu a (X.pn ++ pins)).run [] s5 _ _ _ S5 (hyes rfl a na)) (fun fl s6 hfl => ?_) (fun _ _ z => False.elim z)
      have away : ∀ {σ6 : L2.St} {H6 : Hp} {Q : Shared → Prop}, Inv (X.suite a (X.pn ++ pins)) [] σ6 H6 s6 → (∀ s7, Inv X pins (σ6.set i none) H6 s7 → Q s7) →
          wpAny (model X.prog X.w) X.A (do bindName X.env n .none; unbindBehindTheSuite X.env n pos') (fun _ s7 => Q s7) X.xe s6 := fun {σ6 H6 Q} S6 hq => gone_ok (unsuite0 S6 ok0) hN hi hln hq
      cases fl with
      | next =>
        obtain ⟨σ6, H6, S6, q6⟩ := hfl
        exact away S6 fun s7 J7 => ⟨_, _, J7, q6⟩
      | brk =>
        obtain ⟨σ6, H6, S6, q6⟩ := hfl
        exact away S6 fun s7 J7 => ⟨_, _, J7, q6⟩
      | cont =>
        obtain ⟨σ6, H6, S6, q6⟩ := hfl
        exact away S6 fun s7 J7 => ⟨_, _, J7, q6⟩
      | ret u =>
        obtain ⟨v6, σ6, H6, S6, r6, q6⟩ := hfl
        exact away S6 fun s7 J7 => ⟨_, _, _, J7, r6, q6⟩
    | false =>
      show wpAny _ X.A (handleBy (.ref a) X.env []) _ _ _
      refine wpAny_handleBy_nil ?_
      obtain ⟨y1, y2, y3, oe, vs, T, oT, ts', he, hz, hd, h1, hr⟩ := id f3
      unfold PySem.passOn
      refine wpAny_bind (wpAny_field he hd h1 ?_)
      rw [if_neg (show ¬ ((Value.ref T == Value.none) = true) from by simp)]
      have onward : wpAny (model X.prog X.w) X.A (setFlight (.ref a) X.env.frame) (fun _ s4 => wpAny (model X.prog X.w) X.A (throw (.ref a) : Sem Flow) (SP X pins D) X.xe s4) X.xe { t' with heap := g3 } := by
        rw [hf]
        refine HandSPX.setFlight_upZ f3 fun g4 hh4 u4 => wpAny_throw (tk _ _ ?_)
        exact ⟨a, B, sJ, pins, σ', H', cls, d, rfl, J, nb, (up.trans u3).trans u4, .inr (.inr (by rw [hs]; exact hh4)), na, eos, bare, hno rfl⟩
      first
        | exact wpAny_bind (wpAny_pure (wpAny_bind onward))
        | exact wpAny_bind onward
end
end Bk
namespace Bk
open PySem PySem.Spec PyProof.Rows L2 Evl
section
variable {X : Cx} {pins : List (Addr × Obj)} {σ : L2.St} {H : Hp} {s : Shared}
/-- where the dict of a kept error stands, if there is one -/
def Dct (H : Hp) (d : Option Addr) : Prop := ∀ dd, d = some dd → ∃ fs, H dd = some (.xd fs)
/-- isinstance(x, c) of a kept error -/
def rIsK (K : PySem.W.Frag) : List V → Hp → VK → Prop := fun xs H Q => ∃ (a D : Addr) (d : Option Addr) (c : V) (cv : Value) (b : Bool), xs = [.ref a, c] ∧ ClsV c cv ∧ H a = some (ExK (.ref D) d a) ∧ Dct H d ∧ ExcC K D ∧ PySem.W.kitOne K (.ref D) cv = some b ∧ Q (.bl b) H
theorem call_isK {X : Cx} : CallR X (.builtin "isinstance") (rIsK X.K) := by
  intro pins s σ H xs us Q I r h
  obtain ⟨a, D, d, c, cv, b, rfl, hcv, ha, hd, ex, e, q⟩ := h
  cases r with
  | cons rx rr =>
    cases rr with
    | cons rt rr =>
      cases rr
      cases rx
      have ec := hcv.eq rt
      subst ec
      obtain ⟨oe, vs, hget, hz, hv⟩ := exk_at I.hok ha
      have hcl : (PySem.W.clsIn X.K D).isSome = true := by
        obtain ⟨cd, hc, _⟩ := PySem.W.any_some ex.hd
        rw [hc]
        rfl
      obtain ⟨od, J⟩ : ∃ od, PySem.W.InstAt s.heap a oe D od := by
        obtain ⟨oc, od, oda, osl⟩ := oe
        obtain ⟨h1, h2⟩ := hz
        dsimp only at h1 h2 hv
        subst h1 h2 hv
        cases od with
        | none => exact ⟨none, hget, rfl, rfl, trivial⟩
        | some dd =>
          obtain ⟨fs, hx⟩ := hd dd rfl
          have hx' : ObjOk X.prog X.w H s.heap dd (.xd fs) := I.hok dd _ hx
          obtain ⟨mA, hns, hr⟩ := hx'
          obtain ⟨od, ho, hl⟩ := lookIn_ns hns
          exact ⟨some od, hget, rfl, rfl, ho⟩
      exact PySem.W.kia_one (PySem.W.kitx_exc hcl ex.hg ex.hk ex.hs ex.ha ex.hn ex.ht ex.hm) I.kIn J e (fun z => nomatch z) fun tk => ⟨.bl b, H, I.kept (t' := tk) fun _ _ z => z, rfl, q⟩
/-- .. of anything -/
def rIsiX (K : PySem.W.Frag) : List V → Hp → VK → Prop := fun xs H Q => rIsi K xs H Q ∨ rIsK K xs H Q
theorem call_isX {X : Cx} {K : PySem.W.Frag} (h : X.K = K) : CallR X (.builtin "isinstance") (rIsiX K) := by
  subst h
  exact call_isi.or call_isK
/-- e.f, e a kept error -/
def tXk (K : PySem.W.Frag) (f : Str) (te : TE) : TE := fun σ H Q => te σ H fun x H1 => ∃ (a C dd : Addr) (fs : List (Str × V)) (v : V), x = .ref a ∧ H1 a = some (ExK (.ref C) (some dd) a) ∧ H1 dd = some (.xd fs) ∧ XfC K C ∧ PySem.W.findIn K (.ref C) f = some none ∧ fs.lookup f = some v ∧ Q v H1
theorem pe_xk {X : Cx} {K : PySem.W.Frag} {e : Expr} {te : TE} {pos : Pos} {n : Str} (hK : X.K = K) (he : PE X e te) (hb : attributeBase e n X.env (eval e X.env) = eval e X.env := by rfl) : PE X (.Attribute e n pos) (tXk K n te) := by
  subst hK
  refine ⟨fun pins s σ H Q I h => ?_⟩
  refine attr_of hb (thn (he.run pins s σ H _ I h) fun u s1 hh => ?_)
  obtain ⟨x, H1, I1, rx, a, C, dd, fs, v, rfl, ha, hx, T, hno, l, q⟩ := hh
  obtain rfl : u = Value.ref a := rx
  obtain ⟨oe, vs, hget, hz, hd⟩ := exk_at I1.hok ha
  have hx' : ObjOk X.prog X.w H1 s1.heap dd (.xd fs) := I1.hok dd _ hx
  obtain ⟨mA, hns, hr⟩ := hx'
  obtain ⟨od, ho, hl⟩ := lookIn_ns hns
  obtain ⟨u, hu, ru⟩ := RelO.some_of (v := v) (o := mA n) (by rw [← l]; exact hr n)
  have J : PySem.W.InstAt s1.heap a oe C (some od) := ⟨hget, hz.1, by unfold PySem.W.notCls; rw [hd] <;> rfl, by rw [hz.2]; exact ho⟩
  exact HandSPX.exc_get I1.kIn J T.ga T.gg T.exC (PySem.W.findObj_own T.hdC hno rfl (by rw [hl, hu])) (handed_of ru) ⟨v, H1, I1.tok _, ru, q⟩
end
section
variable {X : Cx} {CX : CXT} {k : Nat} {f : Addr} {fd : FuncData} {ps : List Str} {sp : Sp} {E : L2.St → XK} {x : Str} {p pos : Pos} {e : Expr} {es : List Expr} {t : TA} {kws : List Keyword} {tk : TA} {ks : List Str}
/-- f(e, ..) in a try -/
theorem runGS {pins : List (Addr × Obj)} {σ : L2.St} {H : Hp} {s : Shared} {Q : VK} {us : List Value} {vs : List V} (F : FnG X.prog X.w X.K X.mg X.base CX k f fd ps sp) (hr : Rm k X.A) (hb : Binds X.K fd ps []) (hx : PassesAt CX X σ (E σ))
    (I : Inv X pins σ H s) (r : Vals vs us) (h : sp vs H Q (E σ)) : wpAny (model X.prog X.w) X.A (call (.ref f) us) (EP X pins σ Q) X.xe s := by
  have hl : us.length = ps.length := by rw [← r.length]; exact F.len _ _ _ _ h
  have b := hb s us I.kIn (by rw [List.append_nil]; exact hl)
  rw [List.append_nil] at b
  refine wpAny_call (codeAny_mono (F.run X.A X.stack s H ⟨us, []⟩ us vs Q (E σ) hr I.env0 b r h) fun r s' hq => ?_)
  cases r with
  | error e => exact hx pins H s e s' I hq
  | ok fl =>
    cases fl with
    | ret u => exact I.after hq
    | next => exact hq.elim
    | brk => exact hq.elim
    | cont => exact hq.elim
theorem callGS (F : FnG X.prog X.w X.K X.mg X.base CX k f fd ps sp) (hr : Rm k X.A) (hg : Gl X x) (hm : X.mg x = some (.ref f)) (hk : PySem.W.keepIn X.K (.ref f) = true) (hb : Binds X.K fd ps []) (hx : ∀ σ, PassesAt CX X σ (E σ))
    (ha : PA X (e :: es) t) (hdb : (x == ("__debug__" : Str)) = false := by decide) (he : starEach (e :: es) X.env = (false, eval e X.env) :: starEach es X.env := by rfl) (hpl : (backTo pos (starEach es X.env)).any (·.1) = false := by rfl) :
    PE X (.Call (.Name x p) (e :: es) [] pos) (tCallS sp E t) := by
  refine ⟨fun pins s σ H Q I h => ?_⟩
  refine wpAny_Call_Name_kw (ld_glob I hg hm ?_ hdb)
  refine PySem.W.callWith_K (h₀ := X.base) I.ok.mod.kin hk (thn (ha.run pos pins s σ H _ I h) fun us s1 ⟨vs, H1, I1, r, q⟩ => ⟨I1.kIn, ?_⟩) he hpl
  exact runGS F hr hb (hx σ) I1 r q
end
/-! ### readings -/
theorem dct_none {H : Hp} : Dct H none := fun _ h => nomatch h
theorem dct_some {H : Hp} {dd : Addr} {fs : List (Str × V)} (h : H dd = some (.xd fs)) : Dct H (some dd) := fun b e => by
  cases e
  exact ⟨fs, h⟩
theorem Dct.ex {H H' : Hp} {d : Option Addr} (h : Dct H d) (e : Ex H H') : Dct H' d := fun dd z => by
  obtain ⟨fs, q⟩ := h dd z
  exact ⟨fs, e _ _ q⟩
theorem xfc_of {K : PySem.W.Frag} {C : Addr} (x : ExcC K C) : XfC K C := ⟨x.hg, x.hk, x.hs, x.hd⟩
section
variable {K : PySem.W.Frag} {σ : L2.St} {H : Hp} {ta tc te : TE} {a D : Addr} {d : Option Addr} {c : V} {cv : Value} {b : Bool}
theorem ev_isK (h : Ev ta σ H (.ref a)) (hc : ∀ H1, Ev tc σ H1 c) (cl : ClsV c cv) (ha : H a = some (ExK (.ref D) d a)) (hd : Dct H d) (ex : ExcC K D) (k : PySem.W.kitOne K (.ref D) cv = some b) : Ev (tCB (rIsiX K) (tCons ta (tCons tc tNil))) σ H (.bl b) := fun H1 e Q q =>
  h H1 e _ fun H2 e2 => hc H2 H2 (Ex.refl H2) _ fun H3 e3 => .inr ⟨a, D, d, c, cv, b, rfl, cl, ((e.trans e2).trans e3) _ _ ha, hd.ex ((e.trans e2).trans e3), ex, k, q H3 (e2.trans e3)⟩
theorem ev_isX {x : V} {t : Value} (h : Ev ta σ H x) (hc : ∀ H1, Ev tc σ H1 c) (cl : ClsV c cv) (ty : ∀ H1, Ex H H1 → TyX K H1 x t) (k : PySem.W.kitOne K t cv = some b) : Ev (tCB (rIsiX K) (tCons ta (tCons tc tNil))) σ H (.bl b) := fun H1 e Q q =>
  h H1 e _ fun H2 e2 => hc H2 H2 (Ex.refl H2) _ fun H3 e3 => .inl ⟨x, c, t, cv, b, rfl, cl, ty H3 ((e.trans e2).trans e3), k, q H3 (e2.trans e3)⟩
theorem ev_xk {f : Str} {C dd : Addr} {fs : List (Str × V)} {v : V} (h : Ev te σ H (.ref a)) (ha : H a = some (ExK (.ref C) (some dd) a)) (hd : H dd = some (.xd fs)) (x : ExcC K C) (hno : PySem.W.findIn K (.ref C) f = some none) (l : fs.lookup f = some v) : Ev (tXk K f te) σ H v := fun H1 e Q q =>
  h H1 e _ fun H2 e2 => ⟨a, C, dd, fs, v, rfl, (e.trans e2) _ _ ha, (e.trans e2) _ _ hd, xfc_of x, hno, l, q H2 e2⟩
end
end Bk
namespace Bk
open PySem PySem.Spec PyProof.Rows L2 Evl
theorem bt_ValueError : bootBuiltins "ValueError" = some (.type "ValueError") := by decide +kernel
theorem sup_mk {P : Program} {K : PySem.W.Frag} {h : Heap} {mg : Str → Option Value} {f : Str} {st : Stmt} {C fI : Addr} (X : K.In h) (G : h.Ns mainGlobals mg)
    {nm q : Str} {N : Addr} {bs bm : List Value} {sn : List Str} {sub : List Value} {ab : Bool} {col : Option Bool} {dd : Option Addr} {k0 k1 k2 k3 k5 : Option Value}
    (lk : K.lookup C = some (excClassObj nm q C N bs bm true sn sub ab col dd k0 k1 k2 k3 k5 "ValueError.__new__")) (rv : PySem.HandSPX.refsVE bm = true)
    (sa : PySem.W.findIn K (.ref C) "__setattr__" = some (some (.builtin "object.__setattr__"))) (exC : PySem.W.subIn K (.ref C) (.type "BaseException") = some true) (tyC : PySem.W.typeIn K (.ref C) = some (.type "type")) (kC : PySem.W.keepIn K (.ref C) = true)
    (iC : PySem.W.findIn K (.ref C) "__init__" = some (some (.ref fI))) (tI : PySem.W.typeIn K (.ref fI) = some (.type "function")) (nf : PySem.W.findIn K (.ref C) f = some none)
    (up : PySem.W.ks_superIn K C C "__init__" = some (some (.builtin "ValueError.__init__"))) (sB : PySem.W.subIn K (.ref C) (.type "ValueError") = some true) (sC : PySem.W.mroIn K C (.ref C) = some true)
    (no : PySem.W.nsIn K cStatics "thirdparty.any" = some none) (gS : PySem.W.nsIn K mainGlobals "super" = some none)
    {qual : Str} {oc kV doc pm ct : Value} {od an : Option Addr} {cda cc : Addr} {osl csl ccs : Array (Option Value)} {cl ccl : Value} {cld cdd : Option Addr} {vs : Array Value} {file : Str} {tf : Tok}
    (lI : K.lookup fI = some ⟨oc, od, .func (PySem.W.fnX "__init__" qual (defArgs st) (defBody st) (defScope st) [("__class__", cc)] .none kV doc pm an (.ref cda) ct), osl⟩)
    (cI : PySem.W.codeIn K (.ref cda) qual = true) (lC : K.lookup cc = some ⟨cl, cld, .cell (some (.ref C)), csl⟩) (lD : K.lookup cda = some ⟨ccl, cdd, .fields vs, ccs⟩) (hv : vs[2]? = some (.str file tf)) (hf : ((P.main.file : Str) == file) = true)
    (top : (P.main.scope.names.lookup ("super" : Str)).isSome = false) (arg : ∃ ar, ((defArgs st).posonlyargs ++ (defArgs st).args).head? = some ar ∧ ar.arg = "self")
    (body : ∃ p0 p1 p2 p3 p4 p5 p6 p7 p8 p9 m j, defBody st = [.Expr (.Call (.Attribute (.Call (.Name "super" p0) [] [] p1) "__init__" p2) [.Constant (.str m) j p3] [] p4) p5, .Assign [.Attribute (.Name "self" p6) f p7] (.Name f p8) p9] ∧
      (∀ env, ∃ pl : Sem Bool, eval (.Call (.Attribute (.Call (.Name "super" p0) [] [] p1) "__init__" p2) [.Constant (.str m) j p3] [] p4) env = (do
        let ov ← attributeBase (.Call (.Name "super" p0) [] [] p1) "__init__" env (eval (.Call (.Name "super" p0) [] [] p1) env)
        standAt p2.atName
        let (g, first) ← holding [ov] (getMethod ov "__init__" pl)
        callWith p4 g first (backTo p4 (starEach [.Constant (.str m) j p3] env)) [])) ∧
      ∀ env, swapsWith (.Name f p8) (some (.Attribute (.Name "self" p6) f p7)) p9.line env = pure false)
    (sc : SupS f (defScope st)) :
    SupC P K mg C fI (PySem.W.fnX "__init__" qual (defArgs st) (defBody st) (defScope st) [("__class__", cc)] .none kV doc pm an (.ref cda) ct) f st :=
  { ox := ⟨⟨nm, q, N, bs, bm, sn, sub, ab, col, dd, k0, k1, k2, k3, k5, lk, rv⟩, sa, exC, tyC, kC⟩
    iC := iC
    tI := tI
    nf := nf
    up := up
    sB := sB
    sC := sC
    no := no
    gS := PySem.W.mg_none_of X G gS
    fn := ⟨qual, oc, od, kV, doc, pm, an, cda, ct, cc, osl, cl, cld, csl, ccl, cdd, ccs, vs, file, tf, rfl, lI, cI, lC, lD, hv, hf⟩
    top := top
    arg := arg
    body := body
    sc := sc }
/-! ### values of which something is known, with the heap; repr of any data -/
def EvP (te : TE) (σ : L2.St) (H : Hp) (P : V → Hp → Prop) : Prop := ∀ H1, Ex H H1 → ∀ Q : VK, (∀ v H2, Ex H1 H2 → P v H2 → Q v H2) → te σ H1 Q
def SpP (sp : Sp) (vs : List V) (H : Hp) (P : V → Hp → Prop) : Prop := ∀ H1, Ex H H1 → ∀ Q : VK, (∀ v H2, Ex H1 H2 → P v H2 → Q v H2) → ∀ E : XK, sp vs H1 Q E
def RetP (P : V → Hp → Prop) (H : Hp) (Q : VK) : Prop := ∀ v H2, Ex H H2 → P v H2 → Q v H2
mutual
theorem Dp.ex {K : PySem.W.Frag} {H H' : Hp} (e : Ex H H') : ∀ (d : PyData) (v : V), Dp K H v d → Dp K H' v d
  | .none, _, h => by cases h; exact .non
  | .bool _, _, h => by cases h; exact .bl _
  | .int _, _, h => by cases h; exact .int _
  | .str _, _, h => by cases h; exact .str _
  | .list ds, _, h => by
    cases h with
    | lst h1 h2 => exact .lst (ex_l e h1) (DpAll.ex e ds _ h2)
  | .tuple ds, _, h => by
    cases h with
    | tup h1 h2 => exact .tup (ex_t e h1) (DpAll.ex e ds _ h2)
  | .dict _, _, h => by cases h
theorem DpAll.ex {K : PySem.W.Frag} {H H' : Hp} (e : Ex H H') : ∀ (ds : List PyData) (vs : List V), DpAll K H vs ds → DpAll K H' vs ds
  | [], _, h => by cases h; exact .nil
  | d :: ds, _, h => by
    cases h with
    | cons h1 h2 => exact .cons (Dp.ex e d _ h1) (DpAll.ex e ds _ h2)
end
/-- what repr asks of data -/
def Sho (d : PyData) : Prop := d.showable = true ∧ d.hasDict = false ∧ d.depth ≤ 60 ∧ d.shown.length ≤ sizeLine
def rReprX (K : PySem.W.Frag) : List V → Hp → VK → Prop := fun xs H Q => ∃ (x : V) (d : PyData), xs = [x] ∧ Dp K H x d ∧ Sho d ∧ (∀ y, d ≠ .str y) ∧ Q (.str d.shown) H
theorem call_reprX {X : Cx} {K : PySem.W.Frag} (hK : X.K = K) (hg : X.A.guards = some []) (hu : X.A.units + 64 < cLine) : CallR X (.builtin "repr") (rReprX K) := by
  subst hK
  intro pins s σ H xs us Q I r h
  obtain ⟨x, d, rfl, hd, ⟨hs, hn, hp, hz⟩, no, q⟩ := h
  obtain ⟨u, rfl, ru⟩ := vals1 r
  obtain ⟨as, rd⟩ := Dp.reads I d x u hd ru
  have go : ∀ a, u = Value.ref a → wpAny (model X.prog X.w) X.A (call (.builtin "repr") [u]) (EP X pins σ Q) X.xe s := fun a e => by
    subst e
    refine repr_of_reads' rd hs (fun z => by rw [hn] at z; cases z) hg (by omega) (fun _ _ e => e) (fun h' u tk hk => ?_) hz
    exact ⟨.str d.shown, H, I.kept hk, ⟨u, rfl⟩, q⟩
  cases hd with
  | non =>
    cases (show u = Value.none from ru)
    exact PySem.P.repr_of_none ⟨.str "None", H, I.tok _, ⟨_, rfl⟩, q⟩
  | bl b =>
    cases (show u = Value.bool b from ru)
    cases b
    · exact PySem.P.repr_of_bool ⟨.str "False", H, I.tok _, ⟨_, rfl⟩, q⟩
    · exact PySem.P.repr_of_bool ⟨.str "True", H, I.tok _, ⟨_, rfl⟩, q⟩
  | int i =>
    obtain ⟨t, rfl⟩ := ru
    exact PySem.P.repr_of_int (by simpa [PyData.showable] using hs) ⟨.str _, H, I.tok _, ⟨_, rfl⟩, q⟩
  | str y => exact (no y rfl).elim
  | lst _ _ => exact go _ ru
  | tup _ _ => exact go _ ru
/-- evaluates to data -/
def EvD (K : PySem.W.Frag) (te : TE) (σ : L2.St) (H : Hp) (d : PyData) : Prop := EvP te σ H fun v H1 => Dp K H1 v d
def barD : Option (Nat × Str) → PyData
  | none => .none
  | some (n, s) => .tuple [.int (n : Int), .str s]
section
variable {K : PySem.W.Frag} {σ : L2.St} {H : Hp} {ta tb te : TE} {t : TA} {tt : TT} {sp : Sp} {E : XK} {vs xs : List V} {b : Option (Nat × Str)} {D : Ends} {tz : TS} {i : Nat} {P : V → Hp → Prop} {d : PyData}
theorem ep_call (h : EvA t σ H vs) (hs : SpP sp (vs ++ []) H P) : EvP (tCall sp [] E t) σ H P := fun H1 e Q q =>
  h H1 e _ fun H2 e2 => hs H2 (e.trans e2) Q (fun v H3 e3 h3 => q v H3 (e2.trans e3) h3) E
theorem q_asgP (h : EvP te σ H P) (k : ∀ v H1, Ex H H1 → P v H1 → tz D (σ.set i (some v)) H1) : tSeq (tAsg te (gName i)) tz D σ H :=
  h H (Ex.refl H) _ fun v H1 e1 h1 => k v H1 e1 h1
theorem EvP.mono {P' : V → Hp → Prop} (h : EvP te σ H P) (k : ∀ v H1, P v H1 → P' v H1) : EvP te σ H P' := fun H1 e Q q => h H1 e Q fun v H2 e2 p => q v H2 e2 (k v H2 p)
theorem ed_var {j : Nat} {v : V} (h : σ[j]? = some (some v)) (hd : Dp K H v d) : EvD K (tVar j) σ H d := fun H1 e Q q => ⟨v, h, q v H1 (Ex.refl H1) (Dp.ex e d v hd)⟩
theorem ed_L {ns : List Int} (h : EvL te σ H (vi ns)) : EvD K te σ H (.list (di ns)) := fun H1 e Q q => h H1 e Q fun p H2 _ e2 h2 => q _ H2 e2 (dp_lst (sq_of h2))
theorem ed_B (h : EvB te σ H b) : EvD K te σ H (barD b) := fun H1 e Q q => h H1 e Q fun v H2 e2 h2 => q v H2 e2 (by
  cases b with
  | none =>
    have h2' : v = .non := h2
    rw [h2']
    exact .non
  | some x =>
    obtain ⟨p, e1, g⟩ := h2
    rw [e1]
    exact .tup (st_of g) (.cons (.int _) (.cons (.str _) .nil)))
theorem ep_L (h : EvL te σ H xs) (k : ∀ p H1 H2, Ex H H1 → H1 p = none → Ex H1 H2 → H2 p = some (.lst xs) → P (.ref p) H2) : EvP te σ H P := fun H1 e Q q => h H1 e Q fun p H2 hp e2 h2 => q _ H2 e2 (k p H1 H2 e hp e2 h2)
theorem ep_U (h : EvU te σ H xs) (k : ∀ p H1 H2, Ex H H1 → H1 p = none → Ex H1 H2 → H2 p = some (.tup xs) → P (.ref p) H2) : EvP te σ H P := fun H1 e Q q => h H1 e Q fun p H2 hp e2 h2 => q _ H2 e2 (k p H1 H2 e hp e2 h2)
theorem ed_ifT (h : EvT tt σ H true) (k : ∀ H1, Ex H H1 → EvP ta σ H1 P) : EvP (tIf tt ta tb) σ H P := fun H1 e Q q =>
  h H1 e _ fun H2 e2 => iteT (k H2 (e.trans e2) H2 (Ex.refl H2) Q fun v H3 e3 p => q v H3 (e2.trans e3) p)
theorem ed_ifF (h : EvT tt σ H false) (k : ∀ H1, Ex H H1 → EvP tb σ H1 P) : EvP (tIf tt ta tb) σ H P := fun H1 e Q q =>
  h H1 e _ fun H2 e2 => iteF (k H2 (e.trans e2) H2 (Ex.refl H2) Q fun v H3 e3 p => q v H3 (e2.trans e3) p)
theorem ed_U {ds : List PyData} (h : EvU te σ H vs) (hd : DpAll K H vs ds) : EvD K te σ H (.tuple ds) := fun H1 e Q q => h H1 e Q fun p H2 _ e2 h2 => q _ H2 e2 (.tup (st_of h2) (DpAll.ex (e.trans e2) ds vs hd))
theorem ev_reprX (h : EvD K te σ H d) (hs : Sho d) (no : ∀ y, d ≠ .str y) : Ev (tCB (rReprX K) (tCons te tNil)) σ H (.str d.shown) := fun H1 e Q q =>
  h H1 e _ fun v H2 e2 hd => ⟨v, d, rfl, hd, hs, no, q H2 e2⟩
/-- x, y, z = (value, new list, first bar), by a tuple -/
theorem q_tup3B {j l : Nat} {tc : TE} {x : V} (h1 : Ev ta σ H x) (h2 : EvL tb σ H xs) (h3 : EvB tc σ H b) (k : ∀ p v H1, H p = none → Ex H H1 → H1 p = some (.lst xs) → BarV b v H1 → tz D (((σ.set i (some x)).set j (some (.ref p))).set l (some v)) H1) :
    tSeq (tAsg (tTup (tCons ta (tCons tb (tCons tc tNil)))) (gTup K 3 (gCons (gName i) (gCons (gName j) (gCons (gName l) gNil))))) tz D σ H :=
  h1 H (Ex.refl H) _ fun H1 e1 => h2 H1 e1 _ fun p H2 hp e2 g2 => h3 H2 (e1.trans e2) _ fun v H3 e3 g3 => ⟨sz_of (by show 3 ≤ 100000; decide), fun r hr => ⟨r, _, rfl, st_of upd_same, rfl, _, _, rfl, _, _, rfl, _, _, rfl, rfl,
    k p v _ (fresh_back e1 hp) (((e1.trans e2).trans e3).trans (Ex.new hr)) (Ex.new hr _ _ (e3 _ _ g2)) (g3.ex (Ex.new hr))⟩⟩
end
theorem sho_list {ns : List Int} (hw : wide 1900 ns) (hl : ns.length ≤ 4000) : Sho (.list (di ns)) := by
  refine ⟨by simp [PyData.showable, showable_ints (hw.mono (by decide))], by simp [PyData.hasDict, noDict_ints], by simp [PyData.depth, depthAll_ints], ?_⟩
  rw [PyData.shown]
  have := listText_le (shown_le (by decide) hw)
  rw [shownAll_ints, List.length_map, ← shownAll_ints] at this
  rw [sizeLine_eq]
  omega
theorem sho_none : Sho .none := ⟨rfl, rfl, by decide, by
  rw [PyData.shown]
  exact sz_of (by decide)⟩
theorem tup2_sho {n : Int} {d : PyData} (hn : n.natAbs.log2 < 1900) (h1 : d.showable = true) (h2 : d.hasDict = false) (h3 : d.depth = 0) (h4 : d.shown.length ≤ 40) : Sho (.tuple [.int n, d]) := by
  refine ⟨by simp [PyData.showable, PyData.showableAll, h1]; omega, by simp [PyData.hasDict, PyData.hasDictAll, h2], by simp [PyData.depth, PyData.depthAll, h3], ?_⟩
  rw [PyData.shown]
  have hi : ((toString n : Str)).length ≤ 1901 := by
    rw [PySem.ofString_length]
    exact int_text_length_le (by decide) hn
  have := tupleText_le (ts := PyData.shownAll [.int n, d]) (L := 1901) (by
    intro t ht
    simp only [PyData.shownAll, List.mem_cons, List.not_mem_nil, or_false] at ht
    rcases ht with e | e
    · rw [e, PyData.shown]
      exact hi
    · rw [e]
      omega)
  have e2 : (PyData.shownAll [.int n, d]).length = 2 := rfl
  rw [e2] at this
  rw [sizeLine_eq]
  omega
theorem small_log {n : Nat} (h : n < 2 ^ 100) : ((n : Int)).natAbs.log2 < 1900 := Nat.lt_of_lt_of_le (PySem.Flt.log2_lt_of (k := 100) (by decide) (by rw [Int.natAbs_natCast]; exact h)) (by decide)
theorem sho_bar {b : Option (Nat × Str)} (h : ∀ n s, b = some (n, s) → n < 2 ^ 100 ∧ (s = "rest" ∨ s = "below")) : Sho (barD b) := by
  cases b with
  | none => exact sho_none
  | some x =>
    obtain ⟨n, s⟩ := x
    obtain ⟨h1, h2⟩ := h n s rfl
    refine tup2_sho (small_log h1) rfl rfl rfl ?_
    rcases h2 with e | e <;> subst e <;> (rw [PyData.shown]; decide +kernel)
end Bk
namespace Bk
open PySem PySem.Spec PyProof.Rows L2 Evl
/-! ### for x in reversed(a tuple); any of a tuple of numbers; drawn lists and tuples in pairs -/
theorem pi_revAK {X : Cx} {K : PySem.W.Frag} {tg e : Expr} {te : TE} {p pos : Pos} (h : X.K = K) (hg : Gl X "reversed") (hm : X.mg "reversed" = none) (he : PE X e te) (hs : starEach [e] X.env = (false, eval e X.env) :: starEach [] X.env := by rfl) : PI X tg (.Call (.Name "reversed" p) [e] [] pos) (RT.iRevA K te) := by
  subst h
  exact RT.pi_revA hg hm he hs
section
variable {K : PySem.W.Frag} {σ : L2.St} {H : Hp} {ta tb te tl ti : TE} {t : TT} {D : Ends} {tu tz : TS}
theorem s_forRevT {a : Addr} {xs : List V} {j : Nat} (h : Ev tl σ H (.ref a)) (hx : SqT K H a xs) (Pv : Nat → L2.St → Hp → Prop) (h0 : ∀ H1, Ex H H1 → Pv 0 σ H1) (hl : ∀ i σ' H', i ≤ xs.length → Pv i σ' H' → SqT K H' a xs)
    (hs : ∀ i x σ' H', xs[xs.length - 1 - i]? = some x → i < xs.length → Pv i σ' H' → tu { D with nx := Pv (i + 1), ct := Pv (i + 1), bk := D.nx } (σ'.set j (some x)) H') (hd : ∀ σ' H', Pv xs.length σ' H' → D.nx σ' H') : tFor (RT.iRevA K tl) (gName j) tu D σ H :=
  h H (Ex.refl H) _ fun H1 e => ⟨a, xs, rfl, Or.inr ⟨ex_t e hx, by
    refine ⟨fun i m σ H => m = xs.length - i ∧ i ≤ xs.length ∧ Pv i σ H, ⟨xs.length, rfl, Nat.zero_le _, h0 H1 e⟩, ?_⟩
    rintro i m σ' H' ⟨rfl, hi, p⟩
    have q := hl i σ' H' hi p
    by_cases hlt : i < xs.length
    · refine .inr ⟨⟨hlt, xs, xs[xs.length - 1 - i], q, List.getElem?_eq_getElem (by omega)⟩, Pv (i + 1), fun σ2 H2 p' => ⟨xs.length - (i + 1), by omega, rfl, hlt, p'⟩, ?_⟩
      rintro x H2 ⟨rfl, gx⟩
      exact hs i x σ' H2 (gx xs q) hlt p
    · have ei : i = xs.length := by omega
      subst ei
      exact .inl ⟨Nat.le_refl _, hd σ' H' p⟩⟩⟩
theorem q_forRevT {a : Addr} {xs : List V} {j : Nat} (h : Ev tl σ H (.ref a)) (hx : SqT K H a xs) (Pv : Nat → L2.St → Hp → Prop) (h0 : ∀ H1, Ex H H1 → Pv 0 σ H1) (hl : ∀ i σ' H', i ≤ xs.length → Pv i σ' H' → SqT K H' a xs)
    (hs : ∀ i x σ' H', xs[xs.length - 1 - i]? = some x → i < xs.length → Pv i σ' H' → tu { D with nx := Pv (i + 1), ct := Pv (i + 1), bk := tz D } (σ'.set j (some x)) H') (hd : ∀ σ' H', Pv xs.length σ' H' → tz D σ' H') : tSeq (tFor (RT.iRevA K tl) (gName j) tu) tz D σ H :=
  s_forRevT (D := { D with nx := tz D }) h hx Pv h0 hl hs hd
def rAnyT (K : PySem.W.Frag) : List V → Hp → VK → Prop := fun vs H Q => ∃ (a : Addr) (ns : List Int), vs = [V.ref a] ∧ SqT K H a (vi ns) ∧ Q (.bl (ns.any fun n => n != 0)) H
theorem plain_ints : ∀ ns : List Int, PyData.plainAll (di ns) = true
  | [] => rfl
  | n :: r => by
    show PyData.plainAll (PyData.int n :: di r) = true
    rw [PyData.plainAll, plain_ints r]
    rfl
theorem call_anyT {X : Cx} (h : X.K = K) (hc : X.calm = true) : CallR X (.builtin "any") (rAnyT K) := by
  subst h
  intro pins s σ H vs us Q I r h
  obtain ⟨a, ns, rfl, hs, q⟩ := h
  obtain ⟨its, rv, ht, _⟩ := I.tuple hs
  obtain ⟨as, ra⟩ := Dp.readsAll I (di ns) (vi ns) its (dpAll_ints X.K H ns) rv
  rw [Vals.ref1 r]
  obtain ⟨o, ho, hcl, n, hd⟩ := ht
  refine PySem.W.any_tuple_data (xs := di ns) (as := as) (I.ok.hd hc) ⟨o, ho, hcl, n, hd⟩ (by simpa using ra) (plain_ints ns) ?_ fun h' tk hk => ?_
  · intro x hx
    obtain ⟨m, _, rfl⟩ := List.mem_map.mp hx
    trivial
  · refine ⟨.bl (ns.any fun n => n != 0), H, I.kept hk, ?_, q⟩
    show Value.bool _ = Value.bool _
    rw [List.any_map]
    rfl
theorem ev_anyT {a : Addr} {ns : List Int} (ha : Ev ta σ H (.ref a)) (h : SqT K H a (vi ns)) : Ev (tCB (rAnyT K) (tCons ta tNil)) σ H (.bl (ns.any fun n => n != 0)) := fun H1 e Q q =>
  ha H1 e _ fun H2 e2 => ⟨a, ns, rfl, ex_t (e.trans e2) h, q H2 e2⟩
end
section
variable {K : PySem.W.Frag} {σ : L2.St} {H : Hp} {ta tb te tl ti : TE} {a : Addr} {d d1 d2 n : Nat} {D : Ends} {tz : TS} {x z : V} {sp : Sp} {E : XK}
/-- x, y = drawn tuple, drawn tuple -/
theorem qw_parUU {i j : Nat} {PA PB : List V → Prop} (h1 : EvWU a d1 ta σ H PA) (h2 : EvWU a d2 tb σ H PB) (w : Well H a n) (hl : n + (d1 + d2) ≤ 2 ^ 50)
    (k : ∀ p q xs ys H1, H p = none → H q = none → p ≠ q → But a H H1 → Well H1 a (n + (d1 + d2)) → H1 p = some (.tup xs) → H1 q = some (.tup ys) → PA xs → PB ys → tz D ((σ.set i (some (.ref p))).set j (some (.ref q))) H1) :
    tSeq (tPar i j (tCons ta (tCons tb tNil))) tz D σ H :=
  h1 n H (But.refl a H) w (by omega) _ fun p xs H2 hp b2 w2 g2 pa => h2 (n + d1) H2 b2 w2 (by omega) _ fun q ys H3 hq b3 w3 g3 pb => ⟨_, _, rfl, by
    refine k p q xs ys _ hp (but_free b2 w2 hq) (ne_of_none g2 hq) (b2.trans b3) ?_ (b3 _ _ (w.ne hp) g2) g3 pa pb
    rw [← Nat.add_assoc]
    exact w3⟩
theorem qw_parLL {i j : Nat} {PA PB : List V → Prop} (h1 : EvWL a d1 ta σ H PA) (h2 : EvWL a d2 tb σ H PB) (w : Well H a n) (hl : n + (d1 + d2) ≤ 2 ^ 50)
    (k : ∀ p q xs ys H1, H p = none → H q = none → p ≠ q → But a H H1 → Well H1 a (n + (d1 + d2)) → H1 p = some (.lst xs) → H1 q = some (.lst ys) → PA xs → PB ys → tz D ((σ.set i (some (.ref p))).set j (some (.ref q))) H1) :
    tSeq (tPar i j (tCons ta (tCons tb tNil))) tz D σ H :=
  h1 n H (But.refl a H) w (by omega) _ fun p xs H2 hp b2 w2 g2 pa => h2 (n + d1) H2 b2 w2 (by omega) _ fun q ys H3 hq b3 w3 g3 pb => ⟨_, _, rfl, by
    refine k p q xs ys _ hp (but_free b2 w2 hq) (ne_of_none g2 hq) (b2.trans b3) ?_ (b3 _ _ (w.ne hp) g2) g3 pa pb
    rw [← Nat.add_assoc]
    exact w3⟩
/-- x, y = new tuple, new list -/
theorem q_parUL {i j : Nat} {xs ys : List V} (h1 : EvU ta σ H xs) (h2 : ∀ p H1, H p = none → Ex H H1 → H1 p = some (.tup xs) → EvL tb σ H1 ys) (k : ∀ p q H1, H p = none → H q = none → p ≠ q → Ex H H1 → H1 p = some (.tup xs) → H1 q = some (.lst ys) → tz D ((σ.set i (some (.ref p))).set j (some (.ref q))) H1) :
    tSeq (tPar i j (tCons ta (tCons tb tNil))) tz D σ H :=
  h1 H (Ex.refl H) _ fun p H2 hp e2 g2 => h2 p H2 hp e2 g2 H2 (Ex.refl H2) _ fun q H3 hq e3 g3 => ⟨_, _, rfl, k p q H3 hp (fresh_back e2 hq) (ne_of_none g2 hq) (e2.trans e3) (e3 _ _ g2) g3⟩
/-- x, y = (c, d) by a tuple -/
theorem q_tupVV {i j : Nat} {x y : V} (h1 : Ev ta σ H x) (h2 : Ev tb σ H y) (k : ∀ H1, Ex H H1 → tz D ((σ.set i (some x)).set j (some y)) H1) :
    tSeq (tAsg (tTup (tCons ta (tCons tb tNil))) (gTup K 2 (gCons (gName i) (gCons (gName j) gNil)))) tz D σ H :=
  h1 H (Ex.refl H) _ fun H2 e2 => h2 H2 e2 _ fun H3 e3 => ⟨sz_of (by show 2 ≤ 100000; decide), fun r hr => ⟨r, _, rfl, st_of upd_same, rfl, _, _, rfl, _, _, rfl, rfl, k _ ((e2.trans e3).trans (Ex.new hr))⟩⟩
/-- a new list against one that is there -/
theorem ev_neLV {p : Addr} {ns ms : List Int} (ha : EvL ta σ H (vi ns)) (hb : Ev tb σ H (.ref p)) (h : SqL K H p (vi ms)) : Ev (tOp (rNeD K) ta tb) σ H (.bl (!decide (ns = ms))) := fun H1 e Q k =>
  ha H1 e _ fun p H2 hp e2 h2 => hb H2 (e.trans e2) _ fun H3 e3 => rv_neL (sq_of (e3 _ _ h2)) (ex_l ((e.trans e2).trans e3) h) H3 (Ex.refl H3) Q fun H4 e4 => k H4 ((e2.trans e3).trans e4)
theorem ev_eqLV {p : Addr} {ns ms : List Int} (ha : EvL ta σ H (vi ns)) (hb : Ev tb σ H (.ref p)) (h : SqL K H p (vi ms)) : Ev (tOp (rEqD K) ta tb) σ H (.bl (decide (ns = ms))) := fun H1 e Q k =>
  ha H1 e _ fun p H2 hp e2 h2 => hb H2 (e.trans e2) _ fun H3 e3 => rv_eqL (sq_of (e3 _ _ h2)) (ex_l ((e.trans e2).trans e3) h) H3 (Ex.refl H3) Q fun H4 e4 => k H4 ((e2.trans e3).trans e4)
/-- f(new list, x), a new list -/
theorem el_callL1 {xs zs : List V} (h : EvL ta σ H xs) (h2 : ∀ p H1, Ex H H1 → H1 p = some (.lst xs) → Ev tb σ H1 x) (hs : ∀ p H1, Ex H H1 → H1 p = some (.lst xs) → SpL sp [.ref p, x] H1 zs) : EvL (tCall sp [] E (tCons ta (tCons tb tNil))) σ H zs := fun H1 e Q q =>
  h H1 e _ fun p H2 hp e2 g2 => h2 p H2 (e.trans e2) g2 H2 (Ex.refl H2) _ fun H3 e3 => hs p H3 ((e.trans e2).trans e3) (e3 _ _ g2) H3 (Ex.refl H3) Q (fun r H4 hr e4 h4 => q r H4 (fresh_back (e2.trans e3) hr) ((e2.trans e3).trans e4) h4) E
/-- f(x, new tuple), a new list -/
theorem el_callVU {xs zs : List V} (h : Ev ta σ H x) (h2 : EvU tb σ H xs) (hs : ∀ p H1, Ex H H1 → H1 p = some (.tup xs) → SpL sp [x, .ref p] H1 zs) : EvL (tCall sp [] E (tCons ta (tCons tb tNil))) σ H zs := fun H1 e Q q =>
  h H1 e _ fun H2 e2 => h2 H2 (e.trans e2) _ fun p H3 hp e3 g3 => hs p H3 ((e.trans e2).trans e3) g3 H3 (Ex.refl H3) Q (fun r H4 hr e4 h4 => q r H4 (fresh_back (e2.trans e3) hr) ((e2.trans e3).trans e4) h4) E
/-- [..][k] of a new list -/
theorem ev_ixN {xs : List V} {k : Int} (ha : EvL ta σ H xs) (hb : ∀ H1, Ex H H1 → Ev tb σ H1 (.int k)) (hx : atI xs k = some z) : Ev (tOp (rIxL K) ta tb) σ H z :=
  ev_opL1 ha hb fun p H1 h1 _ => rv_ixL (sq_of h1) hx
/-- xs[-1] = drawn -/
theorem sw_setLast {xs : List V} {l : Addr} {P : V → Prop} (hl : H l = some (.lst xs)) (nl : l ≠ a) (h : EvW a d te σ H P) (ho : ∀ H1, Ev ta σ H1 (.ref l)) (hi : ∀ H1, Ev tb σ H1 (.int (-1))) (hj : 0 < xs.length) (w : Well H a n) (hn : n + d ≤ 2 ^ 50)
    (k : ∀ v H1, But a H H1 → Well H1 a (n + d) → P v → D.nx σ (upd H1 l (.lst (xs.set (xs.length - 1) v)))) : tAsg te (gSub ta tb rSetL) D σ H :=
  h n H (But.refl a H) w hn _ fun v H1 b1 w1 pv => ho H1 H1 (Ex.refl H1) _ fun H2 e2 => hi H2 H2 (Ex.refl H2) _ fun H3 e3 =>
    ⟨l, xs, (-1 : Int), xs.length - 1, rfl, rfl, (e2.trans e3) _ _ (b1 _ _ nl hl), (by
      unfold ixN
      rw [if_neg (by decide), if_pos (by omega)]
      congr 1
      omega), k v H3 (b1.trans (But.ex (e2.trans e3))) (w1.ex (e2.trans e3)) pv⟩
end
section
variable {K : PySem.W.Frag} {σ : L2.St} {H : Hp} {ta tb te tl ti : TE} {a : Addr} {d n : Nat} {D : Ends} {tu tz : TS}
theorem s_forTn {a : Addr} {xs : List V} {j : Nat} (h : Ev tl σ H (.ref a)) (hx : SqT K H a xs) (Pv : Nat → L2.St → Hp → Prop) (h0 : ∀ H1, Ex H H1 → Pv 0 σ H1) (hl : ∀ i σ' H', i ≤ xs.length → Pv i σ' H' → SqT K H' a xs)
    (hs : ∀ i x σ' H', xs[i]? = some x → Pv i σ' H' → tu { D with nx := Pv (i + 1), ct := Pv (i + 1), bk := D.nx } (σ'.set j (some x)) H') (hd : ∀ σ' H', Pv xs.length σ' H' → D.nx σ' H') : tFor (iTup K tl) (gName j) tu D σ H := s_forT h hx Pv h0 hl hs hd
theorem q_forTn {a : Addr} {xs : List V} {j : Nat} (h : Ev tl σ H (.ref a)) (hx : SqT K H a xs) (Pv : Nat → L2.St → Hp → Prop) (h0 : ∀ H1, Ex H H1 → Pv 0 σ H1) (hl : ∀ i σ' H', i ≤ xs.length → Pv i σ' H' → SqT K H' a xs)
    (hs : ∀ i x σ' H', xs[i]? = some x → Pv i σ' H' → tu { D with nx := Pv (i + 1), ct := Pv (i + 1), bk := tz D } (σ'.set j (some x)) H') (hd : ∀ σ' H', Pv xs.length σ' H' → tz D σ' H') : tSeq (tFor (iTup K tl) (gName j) tu) tz D σ H := s_forTn (D := { D with nx := tz D }) h hx Pv h0 hl hs hd
theorem sw_retL {P : List V → Prop} (h : EvWL a d te σ H P) (w : Well H a n) (l : n + d ≤ 2 ^ 50) (k : ∀ p xs H1, H p = none → But a H H1 → Well H1 a (n + d) → H1 p = some (.lst xs) → P xs → D.rt (.ref p) H1) : tRet te D σ H :=
  h n H (But.refl a H) w l _ fun p xs H2 hp b2 w2 h2 px => k p xs H2 hp b2 w2 h2 px
end
theorem cut_drop (xs : List V) (m : Nat) : cutV xs (some (m : Int)) none = xs.drop m := by
  unfold cutV
  rw [HT.sIx_none, HT.sIx_nat]
  by_cases h : m ≤ xs.length
  · rw [Nat.min_eq_left h, List.take_of_length_le (by rw [List.length_drop]; exact Nat.le_refl _)]
  · rw [Nat.min_eq_right (by omega), List.drop_of_length_le (Nat.le_refl _), List.drop_of_length_le (by omega), List.take_nil]
end Bk
namespace Bk
open PySem PySem.Spec PyProof.Rows L2 Evl
/-! ### tuple * int, also once and never -/
theorem tuple_mulW1 (l : Addr) (items : Array Value) (n : Nat) (dd : Option Addr) (sl : Array (Option Value)) (x : Int) (u : Tok) (c0 : (decide (x < -(2 ^ 63)) || decide (x ≥ 2 ^ 63)) = false) (c1 : (items.isEmpty || x == 1) = true) :
    Meets (Builtin.«tuple.__mul__» ⟨[.ref l, .int x u], []⟩) (fun _ R s => s.heap.get? l = some { cls := .type "tuple", dict := dd, data := .seq items n, slots := sl } ∧
      R (.ok (.ret (Value.ref l))) s) :=
  .of_wp fun prog w A R s h => by
    obtain ⟨hp, g, d, tk, os⟩ := s
    obtain ⟨hl, h⟩ := h
    have f1 := AutoSeq1.idx_int
    wp_walk using wpAny_loadPart' hl
    repeat (first
      | (refine wpAny_ite_false (decide_eq_false (by rw [c0]; exact Bool.false_ne_true)) ?_; wp_walk using wpAny_loadPart' hl)
      | (refine wpAny_ite_true (decide_eq_true (by rw [c1])) ?_; wp_walk using wpAny_loadPart' hl))
    exact ⟨_, rfl, h⟩
theorem tuple_mulW0 (l : Addr) (items : Array Value) (n : Nat) (dd : Option Addr) (sl : Array (Option Value)) (x : Int) (u : Tok) (c0 : (decide (x < -(2 ^ 63)) || decide (x ≥ 2 ^ 63)) = false) (c1 : (items.isEmpty || x == 1) = false) (c2 : (decide (x ≤ 0) || items.isEmpty) = true) :
    Meets (Builtin.«tuple.__mul__» ⟨[.ref l, .int x u], []⟩) (fun _ R s => s.heap.get? l = some { cls := .type "tuple", dict := dd, data := .seq items n, slots := sl } ∧
      R (.ok (.ret (Value.ref s.heap.objs.size))) { s with heap := s.heap.push { cls := Value.type "tuple", data := Data.seq #[] }, toks := s.toks }) :=
  .of_wp fun prog w A R s h => by
    obtain ⟨hp, g, d, tk, os⟩ := s
    obtain ⟨hl, h⟩ := h
    have f1 := AutoSeq1.idx_int
    wp_walk using wpAny_loadPart' hl
    repeat (first
      | (refine wpAny_ite_false (decide_eq_false (by rw [c0]; exact Bool.false_ne_true)) ?_; wp_walk using wpAny_loadPart' hl)
      | (refine wpAny_ite_false (decide_eq_false (by rw [c1]; exact Bool.false_ne_true)) ?_; wp_walk using wpAny_loadPart' hl)
      | (refine wpAny_ite_true (decide_eq_true (by rw [c2])) ?_; wp_walk using wpAny_loadPart' hl))
    exact ⟨_, rfl, h⟩
def rRepTA (K : PySem.W.Frag) : R2 := fun x y H Q => ∃ l k xs, x = .ref l ∧ y = .int k ∧ SqT K H l xs ∧ xs ≠ [] ∧ 0 ≤ k ∧ k ≤ 1000 ∧ xs.length ≤ 1000 ∧ (k = 1 → Q (.ref l) H) ∧ (k ≠ 1 → ∀ p, H p = none → Q (.ref p) (upd H p (.tup (List.replicate k.toNat xs).flatten)))
theorem op_repTA {X : Cx} {K : PySem.W.Frag} (hK : X.K = K) : OpR X (binaryOp .Mult) (rRepTA K) := by
  subst hK
  intro pins s σ H x y v u Q I rx ry h
  obtain ⟨l, k, xs, rfl, rfl, hT, hne, h0, h2, hz, q1, q2⟩ := h
  by_cases hk : 2 ≤ k
  · exact op_repT pins s σ H _ _ v u Q I rx ry ⟨l, k, xs, rfl, rfl, hT, hne, hk, h2, hz, q2 (by omega)⟩
  cases rx
  obtain ⟨t, rfl⟩ := ry
  obtain ⟨its, r, ⟨⟨cls, dd, data, sl⟩, ho, hc, n, hd⟩, hs⟩ := I.tuple hT
  simp only at hc hd
  subst hc hd
  have hle : its.length = xs.length := r.length.symm
  have hn : its ≠ [] := fun e => hne (by
    rw [e] at hle
    exact List.eq_nil_of_length_eq_zero hle.symm)
  have hi : its.toArray.isEmpty = false := by
    cases its with
    | nil => exact absurd rfl hn
    | cons a b => rfl
  have c0 : (decide (k < -(2 ^ 63)) || decide (k ≥ 2 ^ 63)) = false := by
    rw [decide_eq_false (by omega), decide_eq_false (by omega)] <;> rfl
  by_cases e1 : k = 1
  · have c1 : (its.toArray.isEmpty || k == 1) = true := by
      rw [hi, Bool.false_or, e1]
      rfl
    exact wpAny_binaryOp_repeat_ref (T := "tuple") (U := "int") (by decide) ⟨_, ho, rfl⟩ (fun s' => typeIs_int s' k t) noFill_tuple_mul F.fills_int_mul F.slot_int_rmul repeat_tuple F.slot_int_index.lookup
      (call_meets F.slot_int_rmul (typeIs_int s k t) F.entry_int_rmul (F.args_int_rmul_2 _ _) (int_rmul_tuple k t l its.toArray n dd sl)
        ⟨ho, rfl, ⟨_, ho, rfl⟩, call_meets F.slot_tuple_mul ⟨_, ho, rfl⟩ F.entry_tuple_mul (F.args_tuple_mul_2 _ _) (tuple_mulW1 l its.toArray n dd sl k t c0 c1) ⟨ho, ⟨.ref l, H, I, rfl, q1 e1⟩⟩⟩)
  · have e0 : k = 0 := by omega
    have c1 : (its.toArray.isEmpty || k == 1) = false := by
      rw [hi, Bool.false_or]
      exact beq_eq_false_iff_ne.mpr (by omega)
    have c2 : (decide (k ≤ 0) || its.toArray.isEmpty) = true := by
      rw [decide_eq_true (by omega)]
      rfl
    refine wpAny_binaryOp_repeat_ref (T := "tuple") (U := "int") (by decide) ⟨_, ho, rfl⟩ (fun s' => typeIs_int s' k t) noFill_tuple_mul F.fills_int_mul F.slot_int_rmul repeat_tuple F.slot_int_index.lookup
      (call_meets F.slot_int_rmul (typeIs_int s k t) F.entry_int_rmul (F.args_int_rmul_2 _ _) (int_rmul_tuple k t l its.toArray n dd sl)
        ⟨ho, rfl, ⟨_, ho, rfl⟩, call_meets F.slot_tuple_mul ⟨_, ho, rfl⟩ F.entry_tuple_mul (F.args_tuple_mul_2 _ _) (tuple_mulW0 l its.toArray n dd sl k t c0 c1 c2) ⟨ho, ?_⟩⟩)
    have q := q2 e1
    rw [show k.toNat = 0 by omega] at q
    refine ⟨.ref s.heap.objs.size, _, I.laid (t' := s.toks) (o := .tup []) (fun b ob q => Heap.get?_push_of_some _ q) (Nat.le_refl _) ?_, rfl, q _ (I.hok.fresh (Nat.le_refl _))⟩
    exact ⟨Nat.zero_le _, [], .nil, IsTup.new _ _⟩
/-! ### more with a well: lists and tuples drawn -/
section
variable {K : PySem.W.Frag} {σ : L2.St} {H : Hp} {ta tb te tl ti : TE} {t : TA} {a : Addr} {d d1 d2 n : Nat} {D : Ends} {tz : TS} {x z : V} {sp : Sp} {E : XK} {PA PB : List V → Prop}
theorem ewl_rep {xs : List V} {P : Int → Prop} (ha : EvL ta σ (hid a H) xs) (hb : EvW a d tb σ H (fun v => ∃ r, v = .int r ∧ P r)) (hP : ∀ r, P r → 0 ≤ r ∧ r ≤ 300) (hz : xs.length ≤ 300) : EvWL a d (tOp rRep ta tb) σ H (fun ys => ∃ r, P r ∧ ys = (List.replicate r.toNat xs).flatten) := fun n H1 b w l Q q =>
  ha H1 (ex_hid b) _ fun p H2 hp e2 h2 => hb n H2 (b.trans (But.ex e2)) (w.ex e2) l _ fun v H3 b3 w3 ⟨r, er, pr⟩ => by
    subst er
    obtain ⟨r0, r1⟩ := hP r pr
    have h3 := b3 _ _ (w.ne hp) h2
    have hm : xs.length * r.toNat ≤ 300 * 300 := Nat.mul_le_mul hz (by omega)
    exact ⟨p, r, xs, rfl, rfl, h3, by omega, by omega, sz_of (by omega), fun l hl => q l _ _ (but_free ((But.ex e2).trans b3) w3 hl) (((But.ex e2).trans b3).trans (But.new hl)) (w3.ex (Ex.new hl)) upd_same ⟨r, pr, rfl⟩⟩
theorem ewl_cat {p : Addr} {xs : List V} (ha : Ev ta σ (hid a H) (.ref p)) (h : H p = some (.lst xs)) (np : p ≠ a) (hb : EvWL a d tb σ H PB) (hz : ∀ ys, PB ys → xs.length + ys.length ≤ 100000) : EvWL a d (tOp rCat ta tb) σ H (fun zs => ∃ ys, PB ys ∧ zs = xs ++ ys) := fun n H1 b w l Q q =>
  ha H1 (ex_hid b) _ fun H2 e2 => hb n H2 (b.trans (But.ex e2)) (w.ex e2) l _ fun r ys H3 hr b3 w3 h3 py => ⟨p, r, xs, ys, rfl, rfl, b3 _ _ np (e2 _ _ (b _ _ np h)), h3, sz_of (hz ys py), fun l hl => q l _ _ (but_free ((But.ex e2).trans b3) w3 hl) (((But.ex e2).trans b3).trans (But.new hl)) (w3.ex (Ex.new hl)) upd_same ⟨ys, py, rfl⟩⟩
theorem ewu_tupOf (h : EvWL a d te σ H PA) : EvWU a d (tCB (rTupOf K) (tCons te tNil)) σ H PA := fun n H1 b w l Q q =>
  h n H1 b w l _ fun p xs H2 hp b2 w2 h2 px => ⟨p, xs, rfl, .inl ⟨sq_of h2, fun l hl => q l xs _ (but_free b2 w2 hl) (b2.trans (But.new hl)) (w2.ex (Ex.new hl)) upd_same px⟩⟩
theorem ewu_tup (h : EvWA a d t σ H PA) (hz : ∀ xs, PA xs → xs.length ≤ 100000) : EvWU a d (tTup t) σ H PA := fun n H1 b w l Q q =>
  h n H1 b w l _ fun xs H2 b2 w2 pl => ⟨sz_of (hz xs pl), fun p hp => q p xs _ (but_free b2 w2 hp) (b2.trans (But.new hp)) (w2.ex (Ex.new hp)) upd_same pl⟩
theorem ewu_rep {xs : List V} {P : Int → Prop} (ha : EvU ta σ (hid a H) xs) (hb : EvW a d tb σ H (fun v => ∃ r, v = .int r ∧ P r)) (hP : ∀ r, P r → 0 ≤ r ∧ r ≤ 300) (h0 : xs ≠ []) (hz : xs.length ≤ 300) : EvWU a d (tOp (rRepTA K) ta tb) σ H (fun ys => ∃ r, P r ∧ ys = (List.replicate r.toNat xs).flatten) := fun n H1 b w l Q q =>
  ha H1 (ex_hid b) _ fun p H2 hp e2 h2 => hb n H2 (b.trans (But.ex e2)) (w.ex e2) l _ fun v H3 b3 w3 ⟨r, er, pr⟩ => by
    subst er
    obtain ⟨r0, r1⟩ := hP r pr
    have h3 := b3 _ _ (w.ne hp) h2
    refine ⟨p, r, xs, rfl, rfl, st_of h3, h0, r0, by omega, by omega, fun e1 => ?_, fun _ l hl => q l _ _ (but_free ((But.ex e2).trans b3) w3 hl) (((But.ex e2).trans b3).trans (But.new hl)) (w3.ex (Ex.new hl)) upd_same ⟨r, pr, rfl⟩⟩
    exact q p xs H3 hp ((But.ex e2).trans b3) w3 h3 ⟨r, pr, by rw [e1]; simp⟩
theorem ewu_cat (ha : EvWU a d1 ta σ H PA) (hb : EvWU a d2 tb σ H PB) (h0 : ∀ xs, PA xs → xs ≠ []) (hz : ∀ xs ys, PA xs → PB ys → xs.length + ys.length ≤ 100000) : EvWU a (d1 + d2) (tOp (rCatT K) ta tb) σ H (fun zs => ∃ xs ys, PA xs ∧ PB ys ∧ zs = xs ++ ys) := fun n H1 b w l Q q =>
  ha n H1 b w (by omega) _ fun p xs H2 hp b2 w2 h2 px => hb (n + d1) H2 (b.trans b2) w2 (by omega) _ fun r ys H3 hr b3 w3 h3 py => by
    rw [Nat.add_assoc] at w3
    have h2' := b3 _ _ (w.ne hp) h2
    refine ⟨p, r, xs, ys, rfl, rfl, st_of h2', st_of h3, h0 xs px, sz_of (hz xs ys px py), fun e => ?_, fun _ l hl => q l _ _ (but_free (b2.trans b3) w3 hl) ((b2.trans b3).trans (But.new hl)) (w3.ex (Ex.new hl)) upd_same ⟨xs, ys, px, py, rfl⟩⟩
    exact q p xs H3 hp (b2.trans b3) w3 h2' ⟨xs, ys, px, py, by rw [e, List.append_nil]⟩
/-- f(well, drawn ..), which draws itself -/
theorem ewu_callA (h : EvWA a d1 t σ H PA) (hs : ∀ vs n H1, PA vs → Well H1 a n → n + d2 ≤ 2 ^ 50 → ∀ Q : VK, (∀ p xs H2, H1 p = none → But a H1 H2 → Well H2 a (n + d2) → H2 p = some (.tup xs) → PB xs → Q (.ref p) H2) → ∀ E : XK, sp vs H1 Q E) : EvWU a (d1 + d2) (tCall sp [] E t) σ H PB := fun n H1 b w l Q q =>
  h n H1 b w (by omega) _ fun vs H2 b2 w2 pv => by
    rw [List.append_nil]
    exact hs vs (n + d1) H2 pv w2 (by omega) Q (fun p xs H3 hp b3 w3 h3 px => q p xs H3 (but_free b2 w2 hp) (b2.trans b3) (by rw [← Nat.add_assoc]; exact w3) h3 px) E
theorem ewl_callA (h : EvWA a d1 t σ H PA) (hs : ∀ vs n H1, PA vs → Well H1 a n → n + d2 ≤ 2 ^ 50 → ∀ Q : VK, (∀ p xs H2, H1 p = none → But a H1 H2 → Well H2 a (n + d2) → H2 p = some (.lst xs) → PB xs → Q (.ref p) H2) → ∀ E : XK, sp vs H1 Q E) : EvWL a (d1 + d2) (tCall sp [] E t) σ H PB := fun n H1 b w l Q q =>
  h n H1 b w (by omega) _ fun vs H2 b2 w2 pv => by
    rw [List.append_nil]
    exact hs vs (n + d1) H2 pv w2 (by omega) Q (fun p xs H3 hp b3 w3 h3 px => q p xs H3 (but_free b2 w2 hp) (b2.trans b3) (by rw [← Nat.add_assoc]; exact w3) h3 px) E
theorem ewu_mono {P1 : List V → Prop} (x : EvWU a d te σ H PA) (h : ∀ v, PA v → P1 v) : EvWU a d te σ H P1 := fun n H1 b w l Q q => x n H1 b w l Q fun p v H2 hp b2 w2 g2 k => q p v H2 hp b2 w2 g2 (h v k)
theorem ewa_mono {P1 : List V → Prop} (x : EvWA a d t σ H PA) (h : ∀ v, PA v → P1 v) : EvWA a d t σ H P1 := fun n H1 b w l Q q => x n H1 b w l Q fun vs H2 b2 w2 k => q vs H2 b2 w2 (h vs k)
theorem qw_setLast {xs : List V} {l : Addr} {P : V → Prop} (hl : H l = some (.lst xs)) (nl : l ≠ a) (h : EvW a d te σ H P) (ho : ∀ H1, Ev ta σ H1 (.ref l)) (hi : ∀ H1, Ev tb σ H1 (.int (-1))) (hj : 0 < xs.length) (w : Well H a n) (hn : n + d ≤ 2 ^ 50)
    (k : ∀ v H1, But a H H1 → Well H1 a (n + d) → P v → tz D σ (upd H1 l (.lst (xs.set (xs.length - 1) v)))) : tSeq (tAsg te (gSub ta tb rSetL)) tz D σ H := sw_setLast (D := { D with nx := tz D }) hl nl h ho hi hj w hn k
/-- xs[drawn] = drawn -/
theorem sw_setLW {xs : List V} {l : Addr} {P : V → Prop} {PI : Int → Prop} (hl : H l = some (.lst xs)) (nl : l ≠ a) (h : EvW a d1 te σ H P) (ho : ∀ H1, Ev ta σ H1 (.ref l)) (hi : EvW a d2 tb σ H (fun v => ∃ r, v = .int r ∧ PI r)) (hj : ∀ r, PI r → 0 ≤ r ∧ r < xs.length) (w : Well H a n) (hn : n + (d1 + d2) ≤ 2 ^ 50)
    (k : ∀ v (j : Nat) H1, But a H H1 → Well H1 a (n + (d1 + d2)) → P v → j < xs.length → D.nx σ (upd H1 l (.lst (xs.set j v)))) : tAsg te (gSub ta tb rSetL) D σ H :=
  h n H (But.refl a H) w (by omega) _ fun v H1 b1 w1 pv => ho H1 H1 (Ex.refl H1) _ fun H2 e2 => hi (n + d1) H2 (b1.trans (But.ex e2)) (w1.ex e2) (by omega) _ fun u H3 b3 w3 ⟨r, er, pr⟩ => by
    subst er
    obtain ⟨r0, r1⟩ := hj r pr
    obtain ⟨j, rfl⟩ : ∃ j : Nat, r = j := ⟨r.toNat, by omega⟩
    exact ⟨l, xs, (j : Int), j, rfl, rfl, b3 _ _ nl (e2 _ _ (b1 _ _ nl hl)), ixN_nat (by omega), k v j H3 ((b1.trans (But.ex e2)).trans b3) (by rw [← Nat.add_assoc]; exact w3) pv (by omega)⟩
/-- a list that is there against a new one -/
theorem ev_eqVL {p : Addr} {ns ms : List Int} (ha : Ev ta σ H (.ref p)) (h : SqL K H p (vi ns)) (hb : EvL tb σ H (vi ms)) : Ev (tOp (rEqD K) ta tb) σ H (.bl (decide (ns = ms))) := fun H1 e Q k =>
  ha H1 e _ fun H2 e2 => hb H2 (e.trans e2) _ fun p H3 hp e3 h3 => rv_eqL (ex_l ((e.trans e2).trans e3) h) (sq_of h3) H3 (Ex.refl H3) Q fun H4 e4 => k H4 ((e2.trans e3).trans e4)
/-- x, y = f(..), a pair -/
theorem q_tupP2 {i j : Nat} {P : V → Hp → Prop} (h : EvP te σ H P) (k : ∀ v H1, Ex H H1 → P v H1 → ∃ t x y, v = .ref t ∧ SqT K H1 t [x, y] ∧ tz D ((σ.set i (some x)).set j (some y)) H1) : tSeq (tAsg te (gTup K 2 (gCons (gName i) (gCons (gName j) gNil)))) tz D σ H :=
  h H (Ex.refl H) _ fun v H1 e1 p => by
    obtain ⟨t, x, y, rfl, ht, q⟩ := k v H1 e1 p
    exact ⟨t, _, rfl, ht, rfl, _, _, rfl, _, _, rfl, rfl, q⟩
end
/-! ### isinstance of a kept error, classes in a tuple -/
def rIsKT (K : PySem.W.Frag) : List V → Hp → VK → Prop := fun xs H Q => ∃ (a D tp : Addr) (d : Option Addr) (cs : List V) (us : List Value) (b : Bool), xs = [.ref a, .ref tp] ∧ H tp = some (.tup cs) ∧ Paired ClsV cs us ∧ H a = some (ExK (.ref D) d a) ∧ Dct H d ∧ ExcC K D ∧ PySem.W.kitAny K (.ref D) us = some b ∧ Q (.bl b) H
theorem call_isKT {X : Cx} {K : PySem.W.Frag} (hK : X.K = K) : CallR X (.builtin "isinstance") (rIsKT K) := by
  subst hK
  intro pins s σ H xs us Q I r h
  obtain ⟨a, D, tp, d, cs, ws, b, rfl, hT, k, ha, hd, ex, e, q⟩ := h
  obtain ⟨u1, u2, rfl, r1, r2⟩ := vals2 r
  cases (show u2 = Value.ref tp from r2)
  cases (show u1 = Value.ref a from r1)
  obtain ⟨oe, vs, hget, hz, hv⟩ := exk_at I.hok ha
  have hcl : (PySem.W.clsIn X.K D).isSome = true := by
    obtain ⟨cd, hc, _⟩ := PySem.W.any_some ex.hd
    rw [hc]
    rfl
  obtain ⟨od, J⟩ : ∃ od, PySem.W.InstAt s.heap a oe D od := by
    obtain ⟨oc, od, oda, osl⟩ := oe
    obtain ⟨h1, h2⟩ := hz
    dsimp only at h1 h2 hv
    subst h1 h2 hv
    cases od with
    | none => exact ⟨none, hget, rfl, rfl, trivial⟩
    | some dd =>
      obtain ⟨fs, hx⟩ := hd dd rfl
      have hx' : ObjOk X.prog X.w H s.heap dd (.xd fs) := I.hok dd _ hx
      obtain ⟨mA, hns, hr⟩ := hx'
      obtain ⟨od, ho, hl⟩ := lookIn_ns hns
      exact ⟨some od, hget, rfl, rfl, ho⟩
  obtain ⟨_, its, rv, o, h1, h2, n, h3⟩ := (show ObjOk X.prog X.w H s.heap tp (.tup cs) from I.hok tp _ hT)
  have e3 := ClsV.all k rv
  subst e3
  obtain ⟨oc, odd, dt, sl⟩ := o
  simp only at h2 h3
  subst h2 h3
  exact PySem.W.kia_tup (PySem.W.kitx_exc hcl ex.hg ex.hk ex.hs ex.ha ex.hn ex.ht ex.hm) I.kIn J h1 e (fun z => nomatch z) fun tk => ⟨.bl b, H, I.kept (t' := tk) fun _ _ z => z, rfl, q⟩
section
variable {K : PySem.W.Frag} {σ : L2.St} {H : Hp} {ta tc : TE} {a D : Addr} {d : Option Addr} {cs : List V} {us : List Value} {b : Bool}
theorem ev_isKT (h : Ev ta σ H (.ref a)) (hc : EvU tc σ H cs) (cl : Paired ClsV cs us) (ha : H a = some (ExK (.ref D) d a)) (hd : Dct H d) (ex : ExcC K D) (k : PySem.W.kitAny K (.ref D) us = some b) : Ev (tCB (rIsKT K) (tCons ta (tCons tc tNil))) σ H (.bl b) := fun H1 e Q q =>
  h H1 e _ fun H2 e2 => hc H2 (e.trans e2) _ fun p H3 hp e3 h3 => ⟨a, D, p, d, cs, us, b, rfl, h3, cl, ((e.trans e2).trans e3) _ _ ha, hd.ex ((e.trans e2).trans e3), ex, k, q H3 (e2.trans e3)⟩
end
end Bk
namespace Bk
open PySem PySem.Spec PyProof.Rows L2 Evl
theorem strOk_of (s : String) : PyData.strOk (Str.ofString s) = true := by
  rw [Str.ofString_eq_toList]
  unfold PyData.strOk
  refine Array.all_eq_true.mpr fun i hi => ?_
  simp
  have := (s.toList[i]'(by simpa using hi)).valid
  unfold UInt32.isValidChar Nat.isValidChar at this
  show (s.toList[i]'(by simpa using hi)).val.toNat < 1114112
  omega
theorem strOk_app {a b : Str} (h : PyData.strOk a = true) (h' : PyData.strOk b = true) : PyData.strOk (a ++ b) = true := by
  unfold PyData.strOk at *
  show ((a.cps ++ b.cps).all _) = true
  simp at *
  exact ⟨h, h'⟩
theorem strOk_from : ∀ (ts : List Str) (k : Nat) (acc : Str), PyData.strOk acc = true → (∀ t ∈ ts, PyData.strOk t = true) → PyData.strOk (textFrom k acc ts) = true
  | [], k, acc, h, _ => h
  | t :: r, k, acc, h, ht => by
    show PyData.strOk (textFrom (k + 1) (acc ++ (if k > 0 then ", " else "" : String) ++ t) r) = true
    exact strOk_from r (k + 1) _ (strOk_app (strOk_app h (strOk_of _)) (ht t List.mem_cons_self)) fun u hu => ht u (List.mem_cons_of_mem _ hu)
theorem strOk_list (ns : List Int) : PyData.strOk (PyData.list (di ns)).shown = true := by
  rw [PyData.shown]
  unfold listText
  refine strOk_app (strOk_from _ _ _ (strOk_of _) fun t ht => ?_) (strOk_of _)
  rw [shownAll_ints] at ht
  obtain ⟨i, _, rfl⟩ := List.mem_map.mp ht
  exact strOk_of _
/-! ### a list of pairs of numbers; lists of new lists -/
def Prs (H : Hp) (qs : List Addr) (ps : List (Int × Int)) : Prop := qs.length = ps.length ∧ ∀ (i : Nat) (q : Addr) (x : Int × Int), qs[i]? = some q → ps[i]? = some x → H q = some (.tup [.int x.1, .int x.2])
theorem Prs.ex {H H' : Hp} {qs : List Addr} {ps : List (Int × Int)} (h : Prs H qs ps) (e : Ex H H') : Prs H' qs ps := ⟨h.1, fun i q x a b => e _ _ (h.2 i q x a b)⟩
section
variable {K : PySem.W.Frag} {σ : L2.St} {H : Hp} {ta tb te tl : TE} {t : TA} {D : Ends} {tz : TS}
theorem q_asgPr {ta : TA} {i j n : Nat} {vs : List Nat} (f g : Nat → Int) (h : EvA ta σ H [.int (n : Int)]) (hn : n ≤ 40000) (hw : ∀ x, wipe ((wipe σ vs).set j (some x)) vs = wipe σ vs)
    (he : ∀ (m : Nat) H1, Ex H H1 → m < n → EvU te ((wipe σ vs).set j (some (.int (m : Int)))) H1 [.int (f m), .int (g m)])
    (k : ∀ p qs H1, H p = none → Ex H H1 → H1 p = some (.lst (qs.map .ref)) → Prs H1 qs ((List.range n).map fun m => (f m, g m)) → tz D (σ.set i (some (.ref p))) H1) : tSeq (tAsg (tLc (iRng1 ta) (gName j) tYes te vs) (gName i)) tz D σ H :=
  h H (Ex.refl H) _ fun H1 e1 => ⟨(n : Int), rfl, by omega, by omega, fun Dl hD => by
    refine lc_range (lo := 0) (n := (n : Int).toNat) (fun m H' => Ex H1 H' ∧ ∃ qs : List Addr, H' Dl = some (.lst (qs.map .ref)) ∧ Prs H' qs ((List.range m).map fun m => (f m, g m)) ∧ ∀ q ∈ qs, q ≠ Dl) ⟨Ex.new hD, [], upd_same, ⟨rfl, fun _ _ _ h => nomatch h⟩, fun _ h => nomatch h⟩ (fun m H' hm p => ?_) (fun H' p => ?_)
    · have e0 : (0 : Int) + (m : Int) = (m : Int) := Int.zero_add _
      show wipe ((wipe σ vs).set j (some (.int ((0 : Int) + (m : Int))))) vs = wipe σ vs ∧ tYes ((wipe σ vs).set j (some (.int ((0 : Int) + (m : Int))))) H' fun b H3 => if b = true then te ((wipe σ vs).set j (some (.int ((0 : Int) + (m : Int))))) H3 fun y H4 => ∃ acc, H4 Dl = some (.lst acc) ∧ acc.length < sizeLine ∧ _ else _
      rw [e0]
      obtain ⟨p1, qs, p2, p3, p4⟩ := p
      have hm' : m < n := by omega
      refine ⟨hw _, et_yes H' (Ex.refl H') _ fun H3 e3 => ?_⟩
      refine iteT (he m H3 ((e1.trans p1).trans e3) hm' H3 (Ex.refl H3) _ fun q H4 hq e4 g4 => ?_)
      have lq : qs.length = m := by rw [p3.1, List.length_map, List.length_range]
      have nq : q ≠ Dl := fun z => by
        rw [z, e3 _ _ p2] at hq
        cases hq
      refine ⟨qs.map .ref, e4 _ _ (e3 _ _ p2), sz_lt (by rw [List.length_map]; omega), ((p1.trans e3).trans e4).mut hD, qs ++ [q], by rw [upd_same, List.map_append]; rfl, ⟨by rw [List.length_append, List.length_map, List.length_range, lq]; rfl, fun i q' x a b => ?_⟩, fun q' hq' => ?_⟩
      · rw [List.range_succ, List.map_append] at b
        by_cases c : i < qs.length
        · rw [List.getElem?_append_left c] at a
          rw [List.getElem?_append_left (by rw [List.length_map, List.length_range]; omega)] at b
          rw [upd_ne (p4 _ (List.mem_of_getElem? a))]
          exact e4 _ _ (e3 _ _ (p3.2 i q' x a b))
        · rw [List.getElem?_append_right (by omega)] at a
          rw [List.getElem?_append_right (by rw [List.length_map, List.length_range]; omega), List.length_map, List.length_range] at b
          rw [lq] at a
          match hi : i - m, a, b with
          | 0, a, b =>
            cases a
            cases b
            rw [upd_ne nq]
            exact g4
          | z + 1, a, b => cases a
      · rcases List.mem_append.mp hq' with h | h
        · exact p4 q' h
        · rw [List.mem_singleton.mp h]
          exact nq
    · obtain ⟨p1, qs, p2, p3, p4⟩ := p
      rw [Int.toNat_natCast] at p3
      exact k Dl qs H' (fresh_back e1 hD) (e1.trans p1) p2 p3⟩
theorem el_lcPr {a : Addr} {qs : List Addr} {ps : List (Int × Int)} {i j : Nat} {vs : List Nat} (v : Nat → V) (h : Ev tl σ H (.ref a)) (hx : H a = some (.lst (qs.map .ref))) (hp : Prs H qs ps) (hz : ps.length ≤ 40000)
    (hw : ∀ x y, wipe (((wipe σ vs).set i (some x)).set j (some y)) vs = wipe σ vs) (he : ∀ (n : Nat) (x : Int × Int) H1, Ex H H1 → ps[n]? = some x → Ev te (((wipe σ vs).set i (some (.int x.1))).set j (some (.int x.2))) H1 (v n)) :
    EvL (tLc (iList K tl) (g2 K i j) tYes te vs) σ H (given ps.length (fun _ => true) v) := fun H0 e Q q => h H0 e _ fun H1 e1 => ⟨a, rfl, ⟨_, sq_of ((e.trans e1) _ _ hx)⟩, fun Dl hD =>
  lc_list (xs := qs.map .ref) (Cw H1 (fun _ => true) v Dl) ⟨hD, Ex.new hD, upd_same⟩ (fun i H' _ p => sq_of (p.2.1 _ _ ((e.trans e1) _ _ hx))) (fun n x H' hi p => by
    rw [List.getElem?_map] at hi
    cases g : qs[n]? with
    | none => rw [g] at hi; cases hi
    | some b =>
      rw [g] at hi
      cases hi
      have hl := (List.getElem?_eq_some_iff.mp g).1
      have hlr : n < ps.length := hp.1 ▸ hl
      have hR : ps[n]? = some ps[n] := List.getElem?_eq_getElem hlr
      have hb := p.2.1 _ _ ((e.trans e1) _ _ (hp.2 n b _ g hR))
      exact g2_go hb ⟨hw _ _, cw_turn p (by omega) (fun H3 _ Q q => q H3 (Ex.refl H3)) fun _ => he n _ H1 (e.trans e1) hR⟩)
    (fun H' p => q Dl H' (fresh_back e1 p.1) (e1.trans p.2.1) (by
      have := p.2.2
      rw [List.length_map, hp.1] at this
      exact this))⟩
/-- two new lists, one behind the other -/
def EvLL (t : TA) (σ : L2.St) (H : Hp) (xs ys : List V) : Prop := ∀ H1, Ex H H1 → ∀ Q : List V → Hp → Prop, (∀ p q H2, H1 p = none → H1 q = none → p ≠ q → Ex H1 H2 → H2 p = some (.lst xs) → H2 q = some (.lst ys) → Q [.ref p, .ref q] H2) → t σ H1 Q
theorem ea_LL {xs ys : List V} (h1 : EvL ta σ H xs) (h2 : EvL tb σ H ys) : EvLL (tCons ta (tCons tb tNil)) σ H xs ys := fun H1 e Q q =>
  h1 H1 e _ fun p H2 hp e2 g2 => h2 H2 (e.trans e2) _ fun r H3 hr e3 g3 => q p r H3 hp (fresh_back e2 hr) (ne_of_none g2 hr) (e2.trans e3) (e3 _ _ g2) g3
theorem q_asgLst2 {i : Nat} {xs ys : List V} (h : EvLL t σ H xs ys) (k : ∀ p q l H1, H p = none → H q = none → H l = none → p ≠ q → l ≠ p → l ≠ q → Ex H H1 → H1 p = some (.lst xs) → H1 q = some (.lst ys) → H1 l = some (.lst [.ref p, .ref q]) → tz D (σ.set i (some (.ref l))) H1) : tSeq (tAsg (tLst t) (gName i)) tz D σ H :=
  h H (Ex.refl H) _ fun p q H2 hp hq ne e2 g2 g3 => ⟨sz_of (by show 2 ≤ 100000; decide), fun l hl => k p q l _ hp hq (fresh_back e2 hl) ne (ne_of_none g2 hl).symm (ne_of_none g3 hl).symm (e2.trans (Ex.new hl)) (Ex.new hl _ _ g2) (Ex.new hl _ _ g3) upd_same⟩
theorem q_catLst2 {i : Nat} {l0 : Addr} {zs xs ys : List V} (ha : Ev ta σ H (.ref l0)) (h0 : H l0 = some (.lst zs)) (h : EvLL t σ H xs ys) (hz : zs.length ≤ 1000) (k : ∀ p q l H1, H p = none → H q = none → H l = none → p ≠ q → l ≠ p → l ≠ q → Ex H H1 → H1 p = some (.lst xs) → H1 q = some (.lst ys) → H1 l = some (.lst (zs ++ [.ref p, .ref q])) → tz D (σ.set i (some (.ref l))) H1) : tSeq (tAsg (tOp rCat ta (tLst t)) (gName i)) tz D σ H :=
  ha H (Ex.refl H) _ fun H1 e1 => h H1 e1 _ fun p q H2 hp hq ne e2 g2 g3 => ⟨sz_of (by show 2 ≤ 100000; decide), fun m hm => ⟨l0, m, zs, _, rfl, rfl, Ex.new hm _ _ (e2 _ _ (e1 _ _ h0)), upd_same, sz_of (by show zs.length + 2 ≤ 100000; omega), fun l hl => by
    have e3 := Ex.new (o := .lst [.ref p, .ref q]) hm
    have e4 := Ex.new (o := .lst (zs ++ [.ref p, .ref q])) hl
    have ee := (e2.trans e3).trans e4
    exact k p q l _ (fresh_back e1 hp) (fresh_back e1 hq) (fresh_back ((e1.trans e2).trans e3) hl) ne (ne_of_none (e3 _ _ g2) hl).symm (ne_of_none (e3 _ _ g3) hl).symm (e1.trans ee) ((e3.trans e4) _ _ g2) ((e3.trans e4) _ _ g3) upd_same⟩⟩
/-- two texts in a list, compared with the same -/
theorem ev_neSS {p : Addr} {x y : Str} (hx : PyData.strOk x = true) (hy : PyData.strOk y = true) (ha : EvL ta σ H [.str x, .str y]) (hb : Ev tb σ H (.ref p)) (h : SqL K H p [.str x, .str y]) : Ev (tOp (rNeD K) ta tb) σ H (.bl false) := fun H1 e Q k =>
  ha H1 e _ fun r H2 hr e2 h2 => hb H2 (e.trans e2) _ fun H3 e3 => ⟨.list [.str x, .str y], .list [.str x, .str y], .lst (sq_of (e3 _ _ h2)) (.cons (.str _) (.cons (.str _) .nil)), .lst (ex_l ((e.trans e2).trans e3) h) (.cons (.str _) (.cons (.str _) .nil)), by simp [SeqAt.shaped, PyData.canLay0, PyData.canLayAll0, PyData.depth, PyData.depthAll, hx, hy], by simp [SeqAt.shaped, PyData.canLay0, PyData.canLayAll0, PyData.depth, PyData.depthAll, hx, hy], by
    have e : PyData.eqv (.list [.str x, .str y]) (.list [.str x, .str y]) = true := by simp [PyData.eqv, PyData.eqvAll]
    rw [e]
    exact k H3 (e2.trans e3)⟩
theorem s_forLn' {a : Addr} {xs : List V} {tu : TS} {j : Nat} (h : Ev tl σ H (.ref a)) (hx : SqL K H a xs) (Pv : Nat → L2.St → Hp → Prop) (h0 : ∀ H1, Ex H H1 → Pv 0 σ H1) (hl : ∀ i σ' H', i ≤ xs.length → Pv i σ' H' → SqL K H' a xs)
    (hs : ∀ i x σ' H', xs[i]? = some x → Pv i σ' H' → tu { D with nx := Pv (i + 1), ct := Pv (i + 1), bk := tz D } (σ'.set j (some x)) H') (hd : ∀ σ' H', Pv xs.length σ' H' → tz D σ' H') : tSeq (tFor (iList K tl) (gName j) tu) tz D σ H :=
  s_forL (D := { D with nx := tz D }) h hx Pv h0 hl hs hd
end
end Bk
namespace Bk
open PySem PySem.Spec PyProof.Rows L2 Evl
section
variable {K : PySem.W.Frag} {σ : L2.St} {H : Hp} {ta tb tc te tl : TE} {a : Addr} {d d1 d2 d3 n : Nat} {tz : TS} {D : Ends}
theorem ewl_pure {xs : List V} {P : List V → Prop} (h : EvL te σ (hid a H) xs) (p : P xs) : EvWL a 0 te σ H P := fun n H1 b w l Q q =>
  h H1 (ex_hid b) Q fun r H2 hr e2 h2 => q r xs H2 hr (But.ex e2) (w.ex e2) h2 p
theorem ewl_catW {PA PB : List V → Prop} (ha : EvWL a d1 ta σ H PA) (hb : EvWL a d2 tb σ H PB) (hz : ∀ xs ys, PA xs → PB ys → xs.length + ys.length ≤ 100000) : EvWL a (d1 + d2) (tOp rCat ta tb) σ H (fun zs => ∃ xs ys, PA xs ∧ PB ys ∧ zs = xs ++ ys) := fun n H1 b w l Q q =>
  ha n H1 b w (by omega) _ fun p xs H2 hp b2 w2 h2 px => hb (n + d1) H2 (b.trans b2) w2 (by omega) _ fun r ys H3 hr b3 w3 h3 py => ⟨p, r, xs, ys, rfl, rfl, b3 _ _ (w.ne hp) h2, h3, sz_of (hz xs ys px py), fun l hl => q l _ _ (but_free (b2.trans b3) w3 hl) ((b2.trans b3).trans (But.new hl)) (by
    rw [← Nat.add_assoc]
    exact w3.ex (Ex.new hl)) upd_same ⟨xs, ys, px, py, rfl⟩⟩
theorem qw_par3V {i j l : Nat} {PA PB PC : V → Prop} (h1 : EvW a d1 ta σ H PA) (h2 : EvW a d2 tb σ H PB) (h3 : EvW a d3 tc σ H PC) (w : Well H a n) (hl : n + (d1 + d2 + d3) ≤ 2 ^ 50)
    (k : ∀ x y z H1, But a H H1 → Well H1 a (n + (d1 + d2 + d3)) → PA x → PB y → PC z →
      tz D (((σ.set i (some x)).set j (some y)).set l (some z)) H1) : tSeq (tPar3 i j l (tCons ta (tCons tb (tCons tc tNil)))) tz D σ H :=
  h1 n H (But.refl a H) w (by omega) _ fun x H2 b2 w2 pa => h2 (n + d1) H2 b2 w2 (by omega) _ fun y H3 b3 w3 pb => h3 (n + d1 + d2) H3 (b2.trans b3) w3 (by omega) _ fun z H4 b4 w4 pc => by
    refine ⟨_, _, _, rfl, k x y z H4 ((b2.trans b3).trans b4) ?_ pa pb pc⟩
    rw [show n + (d1 + d2 + d3) = n + d1 + d2 + d3 by omega]
    exact w4
theorem op_isB {X : Cx} : OpR X (compareOp .Is) (fun x y H Q => ∃ a b : Bool, x = V.bl a ∧ y = V.bl b ∧ Q (V.bl (a == b)) H) := by
  intro pins s σ H x y v u Q I rx ry h
  obtain ⟨a, b, rfl, rfl, q⟩ := h
  cases rx
  cases ry
  exact wpAny_is_plain (by rfl) (fin_bl I q (by cases a <;> cases b <;> rfl))
theorem op_notB {X : Cx} : OpR X (compareOp .IsNot) (fun x y H Q => ∃ a b : Bool, x = V.bl a ∧ y = V.bl b ∧ Q (V.bl (!(a == b))) H) := by
  intro pins s σ H x y v u Q I rx ry h
  obtain ⟨a, b, rfl, rfl, q⟩ := h
  cases rx
  cases ry
  exact wpAny_isNot_plain (by rfl) (fin_bl I q (by cases a <;> cases b <;> rfl))
theorem rv_isB {x y : Bool} : RV (fun x y H Q => ∃ a b : Bool, x = V.bl a ∧ y = V.bl b ∧ Q (V.bl (a == b)) H) (.bl x) (.bl y) H (.bl (x == y)) := fun H1 e Q q => ⟨x, y, rfl, rfl, q H1 (Ex.refl H1)⟩
theorem rv_notB {x y : Bool} : RV (fun x y H Q => ∃ a b : Bool, x = V.bl a ∧ y = V.bl b ∧ Q (V.bl (!(a == b))) H) (.bl x) (.bl y) H (.bl (!(x == y))) := fun H1 e Q q => ⟨x, y, rfl, rfl, q H1 (Ex.refl H1)⟩
theorem ewu_pure {xs : List V} {P : List V → Prop} (h : EvU te σ (hid a H) xs) (p : P xs) : EvWU a 0 te σ H P := fun n H1 b w l Q q =>
  h H1 (ex_hid b) Q fun r H2 hr e2 h2 => q r xs H2 hr (But.ex e2) (w.ex e2) h2 p
theorem qw_par3UVV {i j l : Nat} {PA : List V → Prop} {PB PC : V → Prop} (h1 : EvWU a d1 ta σ H PA) (h2 : EvW a d2 tb σ H PB) (h3 : EvW a d3 tc σ H PC) (w : Well H a n) (hl : n + (d1 + d2 + d3) ≤ 2 ^ 50)
    (k : ∀ p xs y z H1, H p = none → But a H H1 → Well H1 a (n + (d1 + d2 + d3)) → H1 p = some (.tup xs) → PA xs → PB y → PC z →
      tz D (((σ.set i (some (.ref p))).set j (some y)).set l (some z)) H1) : tSeq (tPar3 i j l (tCons ta (tCons tb (tCons tc tNil)))) tz D σ H :=
  h1 n H (But.refl a H) w (by omega) _ fun p xs H2 hp b2 w2 g2 pa => h2 (n + d1) H2 b2 w2 (by omega) _ fun y H3 b3 w3 pb => h3 (n + d1 + d2) H3 (b2.trans b3) w3 (by omega) _ fun z H4 b4 w4 pc => by
    refine ⟨_, _, _, rfl, k p xs y z H4 hp ((b2.trans b3).trans b4) ?_ (b4 _ _ (w.ne hp) (b3 _ _ (w.ne hp) g2)) pa pb pc⟩
    rw [show n + (d1 + d2 + d3) = n + d1 + d2 + d3 by omega]
    exact w4
/-- f(new list, new tuple), a new list -/
theorem el_callLU {sp : Sp} {E : XK} {xs ys zs : List V} (h : EvL ta σ H xs) (h2 : EvU tb σ H ys) (hs : ∀ p q H1, Ex H H1 → H1 p = some (.lst xs) → H1 q = some (.tup ys) → SpL sp [.ref p, .ref q] H1 zs) : EvL (tCall sp [] E (tCons ta (tCons tb tNil))) σ H zs := fun H1 e Q q =>
  h H1 e _ fun p H2 hp e2 g2 => h2 H2 (e.trans e2) _ fun p' H3 hp' e3 g3 => hs p p' H3 ((e.trans e2).trans e3) (e3 _ _ g2) g3 H3 (Ex.refl H3) Q (fun r H4 hr e4 h4 => q r H4 (fresh_back (e2.trans e3) hr) ((e2.trans e3).trans e4) h4) E
/-- f(x, drawn tuple) -/
theorem ew_callVU {sp : Sp} {E : XK} {x v : V} {PU : List V → Prop} (h1 : Ev ta σ (hid a H) x) (h : EvWU a d te σ H PU) (hs : ∀ p xs H1, But a H H1 → H1 p = some (.tup xs) → PU xs → SpV sp [x, .ref p] H1 v) : EvW a d (tCall sp [] E (tCons ta (tCons te tNil))) σ H (fun z => z = v) := fun n H1 bt w l Q q =>
  h1 H1 (ex_hid bt) _ fun H2 e2 => h n H2 (bt.trans (But.ex e2)) (w.ex e2) l _ fun p xs H3 hp b3 w3 g3 px => hs p xs H3 ((bt.trans (But.ex e2)).trans b3) g3 px H3 (Ex.refl H3) Q (fun H4 e4 => q v H4 (((But.ex e2).trans b3).trans (But.ex e4)) (w3.ex e4) rfl) E
theorem ew_andT {P : V → Prop} (h1 : Ev ta σ (hid a H) (.bl true)) (h2 : EvW a d tb σ H P) : EvW a d (tAndV ta tb) σ H P := fun n H1 bt w l Q q =>
  h1 H1 (ex_hid bt) _ fun H2 e2 => ⟨true, rfl, iteT (h2 n H2 (bt.trans (But.ex e2)) (w.ex e2) l Q fun v H3 b3 w3 p => q v H3 ((But.ex e2).trans b3) w3 p)⟩
/-- [(f(k), g(k)) for k in range(n) if test][0], where one k alone passes -/
theorem ep_lcP0 {ta : TA} {tt : TT} {t0 : TE} {j n M : Nat} {vs : List Nat} {x y : V} (b : Nat → Bool) (h : EvA ta σ H [.int (n : Int)]) (hn : n ≤ 40000) (hM : M < n) (hb : ∀ m, m < n → (b m = true ↔ m = M)) (hw : ∀ x, wipe ((wipe σ vs).set j (some x)) vs = wipe σ vs)
    (ht : ∀ (m : Nat) H1, Ex H H1 → m < n → EvT tt ((wipe σ vs).set j (some (.int (m : Int)))) H1 (b m)) (he : ∀ H1, Ex H H1 → EvU te ((wipe σ vs).set j (some (.int (M : Int)))) H1 [x, y]) (hz : ∀ H1, Ev t0 σ H1 (.int 0)) :
    EvP (tOp (rIxL K) (tLc (iRng1 ta) (gName j) tt te vs) t0) σ H (fun v H1 => ∃ t, v = .ref t ∧ SqT K H1 t [x, y]) := fun H0 e Q q =>
  h H0 e _ fun H1 e1 => ⟨(n : Int), rfl, by omega, by omega, fun Dl hD => by
    refine lc_range (lo := 0) (n := (n : Int).toNat) (fun m H' => Ex H1 H' ∧ ((m ≤ M ∧ H' Dl = some (.lst [])) ∨ (M < m ∧ ∃ q, q ≠ Dl ∧ H' Dl = some (.lst [.ref q]) ∧ H' q = some (.tup [x, y])))) ⟨Ex.new hD, .inl ⟨Nat.zero_le _, upd_same⟩⟩ (fun m H' hm p => ?_) (fun H' p => ?_)
    · have e0 : (0 : Int) + (m : Int) = (m : Int) := Int.zero_add _
      show wipe ((wipe σ vs).set j (some (.int ((0 : Int) + (m : Int))))) vs = wipe σ vs ∧ tt ((wipe σ vs).set j (some (.int ((0 : Int) + (m : Int))))) H' fun b H3 => if b = true then te ((wipe σ vs).set j (some (.int ((0 : Int) + (m : Int))))) H3 fun y H4 => ∃ acc, H4 Dl = some (.lst acc) ∧ acc.length < sizeLine ∧ _ else _
      rw [e0]
      obtain ⟨p1, p2⟩ := p
      have hm' : m < n := by omega
      refine ⟨hw _, ht m H' ((e.trans e1).trans p1) hm' H' (Ex.refl H') _ fun H3 e3 => ?_⟩
      by_cases c : m = M
      · subst c
        rw [if_pos ((hb m hm').mpr rfl)]
        rcases p2 with ⟨_, g⟩ | ⟨z, _⟩
        · refine he H3 (((e.trans e1).trans p1).trans e3) H3 (Ex.refl H3) _ fun q' H4 hq e4 g4 => ?_
          have nq : q' ≠ Dl := fun z => by
            rw [z, e3 _ _ g] at hq
            cases hq
          exact ⟨[], e4 _ _ (e3 _ _ g), sz_lt (by show 0 < 100000; decide), ((p1.trans e3).trans e4).mut hD, .inr ⟨Nat.lt_succ_self _, q', nq, upd_same, by rw [upd_ne nq]; exact g4⟩⟩
        · exact absurd z (Nat.lt_irrefl _)
      · rw [if_neg fun z => c ((hb m hm').mp z)]
        refine ⟨p1.trans e3, ?_⟩
        rcases p2 with ⟨z, g⟩ | ⟨z, q', nq, g, g'⟩
        · exact .inl ⟨by omega, e3 _ _ g⟩
        · exact .inr ⟨by omega, q', nq, e3 _ _ g, e3 _ _ g'⟩
    · obtain ⟨p1, p2⟩ := p
      rcases p2 with ⟨z, _⟩ | ⟨z, q', nq, g, g'⟩
      · omega
      · exact hz H' H' (Ex.refl H') _ fun H2 e2 => rv_ixL (sq_of (e2 _ _ g)) rfl H2 (Ex.refl H2) Q fun H3 e3 => q _ H3 (e1.trans ((p1.trans e2).trans e3)) ⟨q', rfl, st_of (e3 _ _ (e2 _ _ g'))⟩⟩
end
end Bk
namespace Bk
open PySem PySem.Spec PyProof.Rows L2 Evl
/-! ### own classes: methods, making, properties, len and in, where the stack holds no repr -/
theorem Rm.in1 {k : Nat} {A : Around} (r : Rm (k + 1) A) : Rm k A.in1 := ⟨r.rm.in1, r.gd⟩
theorem Rm.make {k : Nat} {A : Around} (r : Rm (k + 1) A) (C : Addr) (us : List Value) (kw : List (Str × Value)) : Rm k (A.under (.builtin "type.__call__" ⟨.ref C :: us, kw⟩)) := ⟨r.rm.make C us kw, by
  have e : (A.under (.builtin "type.__call__" ⟨.ref C :: us, kw⟩)).guards = A.guards := by
    first
      | rfl
      | simp [Around.under, Code.guards, Code.isGuard, guardIds, pushGuards]
  rw [e]
  exact r.gd⟩
section
variable {X : Cx} {CX : CXT} {k : Nat} {f C p g a : Addr} {fd : FuncData} {ps : List Str} {sp : Sp} {E : XK} {x m : Str} {pos apos ppos : Pos} {e o : Expr} {es : List Expr} {ta : TE} {t : TA}
/-- o.m(e, ..) -/
theorem pe_methG {pl : Sem Bool} (he : PE X o ta) (c : Cls X.K C) (hm : Meth X.K C m f) (F : FnG X.prog X.w X.K X.mg X.base CX k f fd ps sp) (hr : Rm k X.A) (hb : Binds X.K fd ps []) (hx : Passes CX X E) (ha : PA X (e :: es) t)
    (hst : starEach (e :: es) X.env = (false, eval e X.env) :: starEach es X.env := by rfl) (hpl : (backTo pos (starEach es X.env)).any (·.1) = false := by rfl)
    (ht : eval (.Call (.Attribute o m apos) (e :: es) [] pos) X.env = (do
      let ov ← eval o X.env
      standAt apos.atName
      let (f, first) ← holding [ov] (getMethod ov m pl)
      callWith pos f first (backTo pos (starEach (e :: es) X.env)) (backToKw pos (keywordEach [] X.env))) := by rfl) :
    PE X (.Call (.Attribute o m apos) (e :: es) [] pos) (tMeth C m sp [] E ta t) := by
  refine ⟨fun pins s σ H Q I h => ?_⟩
  refine PySem.W.methodCall_KW (pl := pl) (thn (he.run pins s σ H _ I h) fun u s1 ⟨x, H1, I1, rx, a, dx, fs, ex, ea, l, q⟩ => ?_) ht
  subst ex
  obtain rfl : u = Value.ref a := rx
  refine getmeth_ok I1 ea c hm l ?_
  refine PySem.W.callWith_K (first := [.ref a]) (h₀ := X.base) I.ok.mod.kin hm.kp (thn (ha.run pos pins s1 σ H1 _ I1 q) fun us s2 ⟨vs, H2, I2, r, q2⟩ => ⟨I2.kIn, ?_⟩) hst hpl
  exact runG (us := .ref a :: us) (vs := .ref a :: vs) F hr hb .nil hx I2 (.cons rfl r) q2
/-- o.m() -/
theorem pe_methG0 {pl : Sem Bool} (he : PE X o ta) (c : Cls X.K C) (hm : Meth X.K C m f) (F : FnG X.prog X.w X.K X.mg X.base CX k f fd ps sp) (hr : Rm k X.A) (hb : Binds X.K fd ps []) (hx : Passes CX X E)
    (ht : eval (.Call (.Attribute o m apos) [] [] pos) X.env = (do
      let ov ← eval o X.env
      standAt apos.atName
      let (f, first) ← holding [ov] (getMethod ov m pl)
      callWith pos f first (backTo pos (starEach [] X.env)) (backToKw pos (keywordEach [] X.env))) := by rfl) :
    PE X (.Call (.Attribute o m apos) [] [] pos) (tMeth C m sp [] E ta tNil) := by
  refine ⟨fun pins s σ H Q I h => ?_⟩
  refine PySem.W.methodCall_KW (pl := pl) (thn (he.run pins s σ H _ I h) fun u s1 ⟨x, H1, I1, rx, a, dx, fs, ex, ea, l, q⟩ => ?_) ht
  subst ex
  obtain rfl : u = Value.ref a := rx
  refine getmeth_ok I1 ea c hm l ?_
  exact PySem.W.callWith_K0 (first := [.ref a]) I1.kIn hm.kp (runG (us := [.ref a]) (vs := [.ref a]) F hr hb .nil hx I1 (.cons rfl .nil) q)
/-- C() -/
theorem pe_makeG0 (M : Mk X.K C f) (F : FnG X.prog X.w X.K X.mg X.base CX k f fd ps sp) (hr : Rm (k + 1) X.A) (hg : Gl X x) (hm : X.mg x = some (.ref C)) (hb : Binds X.K fd ps []) (hx : Passes CX X E)
    (hdb : (x == ("__debug__" : Str)) = false := by decide) : PE X (.Call (.Name x ppos) [] [] pos) (tMake C sp [] E tNil) := by
  refine ⟨fun pins s σ H Q I h => ?_⟩
  refine wpAny_Call_Name_kw (ld_glob I hg hm ?_ hdb)
  refine PySem.W.callWith_K0 I.kIn M.kp ?_
  have hq := h (s.heap.objs.size + 1) s.heap.objs.size (I.hok.fresh (Nat.le_succ _)) (I.hok.fresh (Nat.le_refl _)) (Nat.ne_of_lt (Nat.lt_succ_self _))
  have I2 := Inv.made (C := C) I
  have hl : ([Value.ref (s.heap.objs.size + 1)] ++ ([] : List Value)).length = ps.length := (F.len _ _ _ _ hq : [V.ref (s.heap.objs.size + 1)].length = ps.length)
  refine wpAny_call (make_map (f := f) I.kIn M.makes M.init (beq_iff_eq.mp M.fn) (codeAny_mono (F.run _ X.stack _ _ ⟨[Value.ref (s.heap.objs.size + 1)], []⟩ [Value.ref (s.heap.objs.size + 1)] [V.ref (s.heap.objs.size + 1)] _ E (hr.make C [] [])
    (I2.env0.make C [] []) (hb _ [Value.ref (s.heap.objs.size + 1)] I2.kIn hl) (.cons rfl .nil) hq) fun r s' hq' => ?_))
  cases r with
  | error e => exact hx pins σ _ _ e s' I2 hq'
  | ok fl =>
    cases fl with
    | ret u =>
      obtain ⟨v, H', I3, rv, ev, q3⟩ := I2.after hq'
      subst ev
      exact ⟨rv, ⟨V.ref (s.heap.objs.size + 1), H', I3, rfl, q3⟩⟩
    | next => exact False.elim hq'
    | brk => exact False.elim hq'
    | cont => exact False.elim hq'
/-- o.f, a property -/
theorem pe_propG (he : PE X e ta) (c : Cls X.K C) (hp : PropOf X.K C x p g) (F : FnG X.prog X.w X.K X.mg X.base CX k g fd ps sp) (hr : Rm (k + 1) X.A) (hb : Binds X.K fd ps []) (hx : Passes CX X.nox E)
    (hab : attributeBase e x X.env (eval e X.env) = eval e X.env) : PE X (.Attribute e x pos) (tProp C sp [] E ta) := by
  refine ⟨fun pins s σ H Q I0 h => ?_⟩
  refine attr_of hab (thn (he.run pins s σ H _ I0 h) fun u s1 ⟨y, H1, I, rx, a, dx, fs, ex, ea, h⟩ => ?_)
  subst ex
  obtain rfl : u = Value.ref a := rx
  obtain ⟨mA, O, _, _, _, _⟩ := ins_get I.hok ea
  obtain ⟨od, J, _⟩ := O.look
  obtain ⟨rest, hrec⟩ := hp.rec_
  have I1 := I.tok (s1.toks + 1)
  have hl : ([Value.ref a] ++ ([] : List Value)).length = ps.length := (F.len _ _ _ _ h : [V.ref a].length = ps.length)
  have hc : (PySem.W.clsIn X.K C).isSome = true := by
    obtain ⟨cd, hc, _⟩ := PySem.W.any_some c.hd
    rw [hc]
    rfl
  refine PySem.W.get_bind I.kIn J (PySem.W.plainGet_of (c.get x)).1 (PySem.W.findObj_data hc hp.at_ hp.get hp.tak) (PySem.W.plainGet_of (c.get x)).2 (wpAny_call (PySem.W.prop_get (s := { s1 with toks := s1.toks + 1 }) I.kIn hrec ?_))
  refine codeAny_mono (F.run X.A.in1 X.stack { s1 with toks := s1.toks + 1 } H1 ⟨[.ref a], []⟩ [.ref a] [.ref a] Q E hr.in1 I1.env0.in1 (hb _ [.ref a] I1.kIn hl) (.cons rfl .nil) h) fun r s' hq => ?_
  cases r with
  | error er => exact False.elim (hx pins σ H1 { s1 with toks := s1.toks + 1 } er s' (I1.wish _) hq)
  | ok fl =>
    cases fl with
    | ret u =>
      obtain ⟨v, H', I3, rv, q3⟩ := I1.after hq
      show wpAny _ _ (handedOut u) _ _ _
      rw [PySem.W.handedOut_of (handed_of rv)]
      exact wpAny_pure ⟨v, H', I3, rv, q3⟩
    | next => exact False.elim hq
    | brk => exact False.elim hq
    | cont => exact False.elim hq
/-- len(o) by an own __len__ -/
def rLenO (C : Addr) (sp : Sp) (E : XK) : List V → Hp → VK → Prop := fun xs H Q => ∃ a dx fs, xs = [V.ref a] ∧ H a = some (.ins C dx fs) ∧ sp [.ref a] H (fun v H2 => ∃ n : Nat, v = .int (n : Int) ∧ n < 2 ^ 62 ∧ Q (.int (n : Int)) H2) E
theorem call_lenO (hs : Meth X.K C "__len__" f) (F : FnG X.prog X.w X.K X.mg X.base CX k f fd ps sp) (hr : Rm (k + 1) X.A) (hb : Binds X.K fd ps []) (hx : Passes CX X E) : CallR X (.builtin "len") (rLenO C sp E) := by
  intro pins s σ H xs us Q I r h
  obtain ⟨a, dx, fs, rfl, ea, h⟩ := h
  obtain ⟨u, rfl, ru⟩ := vals1 r
  cases (show u = Value.ref a from ru)
  obtain ⟨mA, O, _, _, _, _⟩ := ins_get I.hok ea
  obtain ⟨od, J, _⟩ := O.look
  obtain ⟨m, hF⟩ := I.fr
  have hl : ([Value.ref a] ++ ([] : List Value)).length = ps.length := (F.len _ _ _ _ h : [V.ref a].length = ps.length)
  refine PySem.W.len_K hF I.ok.mod.kin J hs.at_ hs.fn (wpAny_call (codeAny_mono (F.run X.A.in1 X.stack s H ⟨[.ref a], []⟩ [.ref a] [.ref a] _ E hr.in1 I.env0.in1 (hb s [.ref a] I.kIn hl) (.cons rfl .nil) h) fun r s' hq => ?_))
  have z := endG I hx r s' hq
  cases r with
  | error e => exact z
  | ok fl =>
    cases fl with
    | ret u =>
      obtain ⟨v, H', I3, rv, n, rfl, hn, q⟩ := z
      obtain ⟨tk, rfl⟩ := rv
      exact ⟨⟨by omega, by omega⟩, V.int (n : Int), H', I3.tok _, ⟨_, rfl⟩, q⟩
    | _ => exact z.elim
/-- x in o by an own __contains__ -/
def rInO (C : Addr) (sp : Sp) (E : XK) (neg : Bool) : R2 := fun x y H Q => ∃ a dx fs, y = V.ref a ∧ H a = some (.ins C dx fs) ∧ sp [.ref a, x] H (fun v H2 => ∃ b : Bool, v = .bl b ∧ Q (.bl (if neg then !b else b)) H2) E
theorem in_run {pins : List (Addr × Obj)} {s : Shared} {σ : L2.St} {H : Hp} {x : V} {u : Value} {Q : VK} {dx : Addr} {fs : List (Str × V)} {R : Bool → Shared → Prop} (F : FnG X.prog X.w X.K X.mg X.base CX k f fd ps sp) (hr : Rm k X.A) (hb : Binds X.K fd ps []) (hx : Passes CX X E)
    (I : Inv X pins σ H s) (ru : RelV x u) (h : sp [.ref a, x] H Q E) (hq : ∀ v s', EP X pins σ Q v s' → ∃ b, v = .bool b ∧ R b s') : wpAny (model X.prog X.w) X.A (call (.ref f) [.ref a, u]) (fun r s' => wpAny (model X.prog X.w) X.A (truthy r) R X.xe s') X.xe s := by
  have hl : ([Value.ref a, u] ++ ([] : List Value)).length = ps.length := (F.len _ _ _ _ h : [V.ref a, x].length = ps.length)
  refine wpAny_call (codeAny_mono (F.run X.A X.stack s H ⟨[.ref a, u], []⟩ [.ref a, u] [.ref a, x] _ E hr I.env0 (hb s [.ref a, u] I.kIn hl) (.cons rfl (.cons ru .nil)) h) fun r s' hz => ?_)
  have z := endG I hx r s' hz
  cases r with
  | error e => exact z
  | ok fl =>
    cases fl with
    | ret v =>
      obtain ⟨b, rfl, w⟩ := hq v s' z
      exact wpAny_truthy_bool w
    | _ => exact z.elim
theorem op_inO (hs : Meth X.K C "__contains__" f) (F : FnG X.prog X.w X.K X.mg X.base CX k f fd ps sp) (hr : Rm k X.A) (hb : Binds X.K fd ps []) (hx : Passes CX X E) : OpR X (compareOp .In) (rInO C sp E false) := by
  intro pins s σ H x y v u Q I rx ry h
  obtain ⟨a, dx, fs, rfl, ea, h⟩ := h
  cases (show u = Value.ref a from ry)
  obtain ⟨mA, O, _, _, _, _⟩ := ins_get I.hok ea
  obtain ⟨od, J, _⟩ := O.look
  obtain ⟨m, hF⟩ := I.fr
  refine PySem.W.in_K hF I.ok.mod.kin J hs.at_ hs.fn (in_run (dx := dx) (fs := fs) F hr hb hx I rx h fun w s' z => ?_)
  obtain ⟨v, H', I3, rv, b, rfl, q⟩ := z
  cases rv
  exact ⟨b, rfl, V.bl b, H', I3, rfl, q⟩
theorem op_notInO (hs : Meth X.K C "__contains__" f) (F : FnG X.prog X.w X.K X.mg X.base CX k f fd ps sp) (hr : Rm k X.A) (hb : Binds X.K fd ps []) (hx : Passes CX X E) : OpR X (compareOp .NotIn) (rInO C sp E true) := by
  intro pins s σ H x y v u Q I rx ry h
  obtain ⟨a, dx, fs, rfl, ea, h⟩ := h
  cases (show u = Value.ref a from ry)
  obtain ⟨mA, O, _, _, _, _⟩ := ins_get I.hok ea
  obtain ⟨od, J, _⟩ := O.look
  obtain ⟨m, hF⟩ := I.fr
  refine PySem.W.notIn_K hF I.ok.mod.kin J hs.at_ hs.fn (in_run (dx := dx) (fs := fs) F hr hb hx I rx h fun w s' z => ?_)
  obtain ⟨v, H', I3, rv, b, rfl, q⟩ := z
  cases rv
  exact ⟨b, rfl, V.bl (!b), H', I3, rfl, q⟩
end
end Bk
namespace Bk
open PySem PySem.Spec PyProof.Rows L2 Evl
/-! ### readings: own classes -/
section
variable {K : PySem.W.Frag} {σ : L2.St} {H : Hp} {ta tb te tv : TE} {t : TA} {D : Ends} {tz : TS} {p C dx : Addr} {fs : List (Str × V)} {f m : Str} {v x z : V} {vs xs : List V} {sp : Sp} {E : XK} {P : V → Hp → Prop}
theorem ev_fld (h : Ev ta σ H (.ref p)) (hp : H p = some (.ins C dx fs)) (c : Cls K C) (n : NoAttr K C f) (l : fs.lookup f = some v) : Ev (tFld K ta f) σ H v := fun H1 e Q q =>
  h H1 e _ fun H2 e2 => ⟨p, C, dx, fs, v, rfl, (e.trans e2) _ _ hp, c, n, l, q H2 e2⟩
theorem ev_meth (h : Ev ta σ H (.ref p)) (hp : H p = some (.ins C dx fs)) (l : fs.lookup m = none) (ha : EvA t σ H vs) (hs : SpV sp (.ref p :: (vs ++ [])) H z) : Ev (tMeth C m sp [] E ta t) σ H z := fun H1 e Q q =>
  h H1 e _ fun H2 e2 => ⟨p, dx, fs, rfl, (e.trans e2) _ _ hp, l, ha H2 (e.trans e2) _ fun H3 e3 => hs H3 ((e.trans e2).trans e3) Q (fun H4 e4 => q H4 ((e2.trans e3).trans e4)) E⟩
theorem el_meth (h : Ev ta σ H (.ref p)) (hp : H p = some (.ins C dx fs)) (l : fs.lookup m = none) (ha : EvA t σ H vs) (hs : SpL sp (.ref p :: (vs ++ [])) H xs) : EvL (tMeth C m sp [] E ta t) σ H xs := fun H1 e Q q =>
  h H1 e _ fun H2 e2 => ⟨p, dx, fs, rfl, (e.trans e2) _ _ hp, l, ha H2 (e.trans e2) _ fun H3 e3 => hs H3 ((e.trans e2).trans e3) Q (fun r H4 hr e4 h4 => q r H4 (fresh_back (e2.trans e3) hr) ((e2.trans e3).trans e4) h4) E⟩
theorem eu_meth (h : Ev ta σ H (.ref p)) (hp : H p = some (.ins C dx fs)) (l : fs.lookup m = none) (ha : EvA t σ H vs) (hs : SpU sp (.ref p :: (vs ++ [])) H xs) : EvU (tMeth C m sp [] E ta t) σ H xs := fun H1 e Q q =>
  h H1 e _ fun H2 e2 => ⟨p, dx, fs, rfl, (e.trans e2) _ _ hp, l, ha H2 (e.trans e2) _ fun H3 e3 => hs H3 ((e.trans e2).trans e3) Q (fun r H4 hr e4 h4 => q r H4 (fresh_back (e2.trans e3) hr) ((e2.trans e3).trans e4) h4) E⟩
theorem s_meth (h : Ev ta σ H (.ref p)) (hp : H p = some (.ins C dx fs)) (l : fs.lookup m = none) (ha : EvA t σ H vs) (k : ∀ H1, Ex H H1 → sp (.ref p :: (vs ++ [])) H1 (fun _ H2 => D.nx σ H2) E) : tDrop (tMeth C m sp [] E ta t) D σ H :=
  h H (Ex.refl H) _ fun H2 e2 => ⟨p, dx, fs, rfl, e2 _ _ hp, l, ha H2 e2 _ fun H3 e3 => k H3 (e2.trans e3)⟩
theorem q_meth (h : Ev ta σ H (.ref p)) (hp : H p = some (.ins C dx fs)) (l : fs.lookup m = none) (ha : EvA t σ H vs) (k : ∀ H1, Ex H H1 → sp (.ref p :: (vs ++ [])) H1 (fun _ H2 => tz D σ H2) E) : tSeq (tDrop (tMeth C m sp [] E ta t)) tz D σ H :=
  s_meth (D := { D with nx := tz D }) h hp l ha k
theorem ev_prop (h : Ev ta σ H (.ref p)) (hp : H p = some (.ins C dx fs)) (hs : SpV sp [.ref p] H z) : Ev (tProp C sp [] E ta) σ H z := fun H1 e Q q =>
  h H1 e _ fun H2 e2 => ⟨p, dx, fs, rfl, (e.trans e2) _ _ hp, hs H2 (e.trans e2) Q (fun H3 e3 => q H3 (e2.trans e3)) E⟩
theorem ev_lenO {n : Nat} (h : Ev ta σ H (.ref p)) (hp : H p = some (.ins C dx fs)) (hs : SpV sp [.ref p] H (.int (n : Int))) (hn : n < 2 ^ 62) : Ev (tCB (rLenO C sp E) (tCons ta tNil)) σ H (.int (n : Int)) := fun H1 e Q q =>
  h H1 e _ fun H2 e2 => ⟨p, dx, fs, rfl, (e.trans e2) _ _ hp, hs H2 (e.trans e2) _ (fun H3 e3 => ⟨n, rfl, hn, q H3 (e2.trans e3)⟩) E⟩
theorem rv_inO {b : Bool} (hp : H p = some (.ins C dx fs)) (hs : SpV sp [.ref p, x] H (.bl b)) : RV (rInO C sp E false) x (.ref p) H (.bl b) := fun H1 e Q q =>
  ⟨p, dx, fs, rfl, e _ _ hp, hs H1 e _ (fun H2 e2 => ⟨b, rfl, q H2 e2⟩) E⟩
theorem rv_notInO {b : Bool} (hp : H p = some (.ins C dx fs)) (hs : SpV sp [.ref p, x] H (.bl b)) : RV (rInO C sp E true) x (.ref p) H (.bl (!b)) := fun H1 e Q q =>
  ⟨p, dx, fs, rfl, e _ _ hp, hs H1 e _ (fun H2 e2 => ⟨b, rfl, q H2 e2⟩) E⟩
theorem q_tupU {i j : Nat} {y : V} (h : EvU te σ H [x, y]) (k : ∀ H1, Ex H H1 → tz D ((σ.set i (some x)).set j (some y)) H1) : tSeq (tAsg te (gTup K 2 (gCons (gName i) (gCons (gName j) gNil)))) tz D σ H :=
  q_tupP2 (P := fun v H1 => ∃ t, v = .ref t ∧ SqT K H1 t [x, y]) (ep_U h fun p H1 H2 _ _ _ g => ⟨p, rfl, st_of g⟩) fun v H1 e1 ⟨t, ev, ht⟩ => ⟨t, x, y, ev, ht, k H1 e1⟩
theorem s_fldL (hv : EvL tv σ H xs) (ha : ∀ H1, Ex H H1 → Ev ta σ H1 (.ref p)) (hp : H p = some (.ins C dx fs)) (c : Cls K C) (n : NoAttr K C f) (hl : fs.length < 1000)
    (k : ∀ l H1, H l = none → Ex H H1 → H1 l = some (.lst xs) → D.nx σ (upd H1 p (.ins C dx (putF f (.ref l) fs)))) : sFld K ta tv f D σ H :=
  hv H (Ex.refl H) _ fun l H1 hl0 e1 h1 => ha H1 e1 H1 (Ex.refl H1) _ fun H2 e2 => ⟨p, C, dx, fs, rfl, (e1.trans e2) _ _ hp, c, n, hl, k l H2 hl0 (e1.trans e2) (e2 _ _ h1)⟩
theorem q_fldL (hv : EvL tv σ H xs) (ha : ∀ H1, Ex H H1 → Ev ta σ H1 (.ref p)) (hp : H p = some (.ins C dx fs)) (c : Cls K C) (n : NoAttr K C f) (hl : fs.length < 1000)
    (k : ∀ l H1, H l = none → Ex H H1 → H1 l = some (.lst xs) → tz D σ (upd H1 p (.ins C dx (putF f (.ref l) fs)))) : tSeq (sFld K ta tv f) tz D σ H :=
  s_fldL (D := { D with nx := tz D }) hv ha hp c n hl k
end
/-! repr of a number; more of drawn lists -/
section
variable {K : PySem.W.Frag} {σ : L2.St} {H : Hp} {ta tb te tl : TE} {a : Addr} {d d1 d2 n : Nat} {D : Ends} {tz : TS} {sp : Sp} {E : XK}
theorem ev_reprI {i : Int} (h : Ev te σ H (.int i)) (hz : i.natAbs.log2 < 1920) : Ev (tCB (fun xs H Q => ∃ i, xs = [V.int i] ∧ i.natAbs.log2 < 1920 ∧ Q (.str (toString i)) H) (tCons te tNil)) σ H (.str (toString i)) := fun H1 e Q q =>
  h H1 e _ fun H2 e2 => ⟨i, rfl, hz, q H2 e2⟩
theorem ew_intB (h : EvW a d te σ H (fun v => ∃ b, v = .bl b)) : EvW a d (tCB (fun xs H Q => (∃ i, xs = [V.int i] ∧ Q (.int i) H) ∨ ∃ k, xs = [V.bl k] ∧ Q (.int (if k then 1 else 0)) H) (tCons te tNil)) σ H (fun v => ∃ r, v = .int r ∧ (r = 0 ∨ r = 1)) := fun n H1 b w l Q q =>
  h n H1 b w l _ fun v H2 b2 w2 ⟨c, e⟩ => .inr ⟨c, by rw [e], q _ H2 b2 w2 (by
    cases c with
    | true => exact ⟨1, rfl, .inr rfl⟩
    | false => exact ⟨0, rfl, .inl rfl⟩)⟩
theorem ew_callL {v : V} {PL : List V → Prop} (h : EvWL a d te σ H PL) (hs : ∀ p xs H1, H1 p = some (.lst xs) → PL xs → SpV sp [.ref p] H1 v) : EvW a d (tCall sp [] E (tCons te tNil)) σ H (fun z => z = v) := fun n H1 bt w l Q q =>
  h n H1 bt w l _ fun p xs H2 hp b2 w2 g2 px => hs p xs H2 g2 px H2 (Ex.refl H2) Q (fun H3 e3 => q v H3 (b2.trans (But.ex e3)) (w2.ex e3) rfl) E
theorem q_asgRaw {i : Nat} (h : te σ H fun v H1 => tz D (σ.set i (some v)) H1) : tSeq (tAsg te (gName i)) tz D σ H := h
end
/-! ### what is kept but at some places -/
def Off (S : List Addr) (H H' : Hp) : Prop := ∀ b o, b ∉ S → H b = some o → H' b = some o
theorem Off.ex {S : List Addr} {H H' : Hp} (e : Ex H H') : Off S H H' := fun b o _ h => e b o h
theorem Off.but {a : Addr} {S : List Addr} {H H' : Hp} (e : But a H H') (h : a ∈ S) : Off S H H' := fun b o n g => e b o (fun z => n (z ▸ h)) g
theorem Off.trans {S : List Addr} {H H1 H2 : Hp} (x : Off S H H1) (y : Off S H1 H2) : Off S H H2 := fun b o n h => y b o n (x b o n h)
theorem Off.more {S S' : List Addr} {H H' : Hp} (x : Off S H H') (h : ∀ a ∈ S, a ∈ S') : Off S' H H' := fun b o n g => x b o (fun z => n (h b z)) g
theorem Off.back {S : List Addr} {H0 H H' : Hp} (e : Ex H0 H) (x : Off S H H') (h : ∀ a ∈ S, H0 a = none) : Ex H0 H' := fun b o g => x b o (fun z => by
  have := h b z
  rw [this] at g
  cases g) (e b o g)
theorem Off.less {S S' : List Addr} {H H' : Hp} (x : Off S H H') (h : ∀ a ∈ S, a ∉ S' → H a = none) : Off S' H H' := fun b o n g => x b o (fun z => by
  have := h b z n
  rw [this] at g
  cases g) g
end Bk
namespace Bk
open PySem PySem.Spec PyProof.Rows L2 Evl
/-- o.m(..), what is raised is wished for at the caller's slots -/
def tMethS (C : Addr) (m : Str) (sp : Sp) (E : L2.St → XK) (ta : TE) (t : TA) : TE := fun σ H Q => ta σ H fun x H1 => ∃ a dx fs, x = .ref a ∧ H1 a = some (.ins C dx fs) ∧ fs.lookup m = none ∧ t σ H1 fun vs H2 => sp (x :: vs) H2 Q (E σ)
section
variable {X : Cx} {CX : CXT} {k : Nat} {f C : Addr} {fd : FuncData} {ps ks : List Str} {sp : Sp} {E : L2.St → XK} {E0 : XK} {m : Str} {pos apos : Pos} {e o : Expr} {es : List Expr} {kws : List Keyword} {ta : TE} {t tk : TA}
theorem pe_methGS {pl : Sem Bool} (he : PE X o ta) (c : Cls X.K C) (hm : Meth X.K C m f) (F : FnG X.prog X.w X.K X.mg X.base CX k f fd ps sp) (hr : Rm k X.A) (hb : Binds X.K fd ps []) (hx : ∀ σ, PassesAt CX X σ (E σ)) (ha : PA X (e :: es) t)
    (hst : starEach (e :: es) X.env = (false, eval e X.env) :: starEach es X.env := by rfl) (hpl : (backTo pos (starEach es X.env)).any (·.1) = false := by rfl)
    (ht : eval (.Call (.Attribute o m apos) (e :: es) [] pos) X.env = (do
      let ov ← eval o X.env
      standAt apos.atName
      let (f, first) ← holding [ov] (getMethod ov m pl)
      callWith pos f first (backTo pos (starEach (e :: es) X.env)) (backToKw pos (keywordEach [] X.env))) := by rfl) :
    PE X (.Call (.Attribute o m apos) (e :: es) [] pos) (tMethS C m sp E ta t) := by
  refine ⟨fun pins s σ H Q I h => ?_⟩
  refine PySem.W.methodCall_KW (pl := pl) (thn (he.run pins s σ H _ I h) fun u s1 ⟨x, H1, I1, rx, a, dx, fs, ex, ea, l, q⟩ => ?_) ht
  subst ex
  obtain rfl : u = Value.ref a := rx
  refine getmeth_ok I1 ea c hm l ?_
  refine PySem.W.callWith_K (first := [.ref a]) (h₀ := X.base) I.ok.mod.kin hm.kp (thn (ha.run pos pins s1 σ H1 _ I1 q) fun us s2 ⟨vs, H2, I2, r, q2⟩ => ⟨I2.kIn, ?_⟩) hst hpl
  exact runGS (us := .ref a :: us) (vs := .ref a :: vs) F hr hb (hx σ) I2 (.cons rfl r) q2
theorem pe_methGS0 {pl : Sem Bool} (he : PE X o ta) (c : Cls X.K C) (hm : Meth X.K C m f) (F : FnG X.prog X.w X.K X.mg X.base CX k f fd ps sp) (hr : Rm k X.A) (hb : Binds X.K fd ps []) (hx : ∀ σ, PassesAt CX X σ (E σ))
    (ht : eval (.Call (.Attribute o m apos) [] [] pos) X.env = (do
      let ov ← eval o X.env
      standAt apos.atName
      let (f, first) ← holding [ov] (getMethod ov m pl)
      callWith pos f first (backTo pos (starEach [] X.env)) (backToKw pos (keywordEach [] X.env))) := by rfl) :
    PE X (.Call (.Attribute o m apos) [] [] pos) (tMethS C m sp E ta tNil) := by
  refine ⟨fun pins s σ H Q I h => ?_⟩
  refine PySem.W.methodCall_KW (pl := pl) (thn (he.run pins s σ H _ I h) fun u s1 ⟨x, H1, I1, rx, a, dx, fs, ex, ea, l, q⟩ => ?_) ht
  subst ex
  obtain rfl : u = Value.ref a := rx
  refine getmeth_ok I1 ea c hm l ?_
  exact PySem.W.callWith_K0 (first := [.ref a]) I1.kIn hm.kp (runGS (us := [.ref a]) (vs := [.ref a]) F hr hb (hx σ) I1 (.cons rfl .nil) q)
theorem runGKS {pins : List (Addr × Obj)} {σ : L2.St} {H : Hp} {s : Shared} {Q : VK} {us ws : List Value} {vs zs : List V} {g : List Value → List Value → List Value} {gV : List V → List V → List V} (F : FnG X.prog X.w X.K X.mg X.base CX k f fd ps sp) (hr : Rm k X.A) (hb : KBinds X.K fd ps ks g gV) (hx : PassesAt CX X σ (E σ))
    (I : Inv X pins σ H s) (r : Vals vs us) (rz : Vals zs ws) (h : sp (gV vs zs) H Q (E σ)) : wpAny (model X.prog X.w) X.A (call (.ref f) us (ks.zip ws)) (EP X pins σ Q) X.xe s := by
  have rv := hb.rel r rz
  have hl : (g us ws).length = ps.length := rv.length.symm.trans (F.len _ _ _ _ h)
  refine wpAny_call (codeAny_mono (F.run X.A X.stack s H ⟨us, ks.zip ws⟩ (g us ws) (gV vs zs) Q (E σ) hr I.env0 (hb.to s us ws I.kIn hl) rv h) fun r s' hq => ?_)
  cases r with
  | error e => exact hx pins H s e s' I hq
  | ok fl =>
    cases fl with
    | ret u => exact I.after hq
    | next => exact hq.elim
    | brk => exact hq.elim
    | cont => exact hq.elim
/-- o.m(k = e) in a try -/
def tMethKS (C : Addr) (m : Str) (sp : Sp) (gV : List V → List V → List V) (E : L2.St → XK) (ta : TE) (tk : TA) : TE := fun σ H Q => ta σ H fun x H1 => ∃ a dx fs, x = .ref a ∧ H1 a = some (.ins C dx fs) ∧ fs.lookup m = none ∧ tk σ H1 fun zs H2 => sp (gV [x] zs) H2 Q (E σ)
theorem pe_methGSK {pl : Sem Bool} {g : List Value → List Value → List Value} {gV : List V → List V → List V} (he : PE X o ta) (c : Cls X.K C) (hm : Meth X.K C m f) (F : FnG X.prog X.w X.K X.mg X.base CX k f fd ps sp) (hr : Rm k X.A) (hb : KBinds X.K fd ps ks g gV) (hx : ∀ σ, PassesAt CX X σ (E σ)) (hkw : PK X kws tk)
    (hall : (backToKw pos (keywordEach kws X.env)).all (·.1.isSome) = true := by rfl) (hks : (backToKw pos (keywordEach kws X.env)).filterMap (·.1) = ks := by rfl)
    (hpl : ((backTo pos (starEach [] X.env)).any (·.1) || (backToKw pos (keywordEach kws X.env)).any (·.1.isNone)) = false := by rfl)
    (ht : eval (.Call (.Attribute o m apos) [] kws pos) X.env = (do
      let ov ← eval o X.env
      standAt apos.atName
      let (f, first) ← holding [ov] (getMethod ov m pl)
      callWith pos f first (backTo pos (starEach [] X.env)) (backToKw pos (keywordEach kws X.env))) := by rfl) :
    PE X (.Call (.Attribute o m apos) [] kws pos) (tMethKS C m sp gV E ta tk) := by
  refine ⟨fun pins s σ H Q I h => ?_⟩
  refine PySem.W.methodCall_KW (pl := pl) (thn (he.run pins s σ H _ I h) fun u s1 ⟨x, H1, I1, rx, a, dx, fs, ex, ea, l, q⟩ => ?_) ht
  subst ex
  obtain rfl : u = Value.ref a := rx
  refine getmeth_ok I1 ea c hm l ?_
  refine PySem.W.callWith_KW0 (first := [.ref a]) (h₀ := X.base) I.ok.mod.kin hm.kp hall (thn (hkw.run pos pins s1 σ H1 _ I1 q) ?_) hpl
  intro ws s2 ⟨zs, H2, I2, rz, q2⟩
  refine ⟨I2.kIn, ?_⟩
  rw [hks]
  exact runGKS (us := [.ref a]) (vs := [.ref a]) F hr hb (hx σ) I2 (.cons rfl .nil) rz q2
end
section
variable {K : PySem.W.Frag} {σ : L2.St} {H : Hp} {ta te : TE} {t tk : TA} {D : Ends} {tz : TS} {p C dx : Addr} {fs : List (Str × V)} {m : Str} {v : V} {vs zs : List V} {sp : Sp} {E : L2.St → XK} {i : Nat}
/-- x = o.m(..) in a try -/
theorem s_asgMS (h : Ev ta σ H (.ref p)) (hp : H p = some (.ins C dx fs)) (l : fs.lookup m = none) (ha : EvA t σ H vs) (k : ∀ H1, Ex H H1 → sp (.ref p :: vs) H1 (fun v H2 => D.nx (σ.set i (some v)) H2) (E σ)) : tAsg (tMethS C m sp E ta t) (gName i) D σ H :=
  h H (Ex.refl H) _ fun H2 e2 => ⟨p, dx, fs, rfl, e2 _ _ hp, l, ha H2 e2 _ fun H3 e3 => k H3 (e2.trans e3)⟩
theorem s_asgMKS {gV : List V → List V → List V} (h : Ev ta σ H (.ref p)) (hp : H p = some (.ins C dx fs)) (l : fs.lookup m = none) (ha : EvA tk σ H zs) (k : ∀ H1, Ex H H1 → sp (gV [.ref p] zs) H1 (fun v H2 => D.nx (σ.set i (some v)) H2) (E σ)) : tAsg (tMethKS C m sp gV E ta tk) (gName i) D σ H :=
  h H (Ex.refl H) _ fun H2 e2 => ⟨p, dx, fs, rfl, e2 _ _ hp, l, ha H2 e2 _ fun H3 e3 => k H3 (e2.trans e3)⟩
theorem s_methS (h : Ev ta σ H (.ref p)) (hp : H p = some (.ins C dx fs)) (l : fs.lookup m = none) (ha : EvA t σ H vs) (k : ∀ H1, Ex H H1 → sp (.ref p :: vs) H1 (fun _ H2 => D.nx σ H2) (E σ)) : tDrop (tMethS C m sp E ta t) D σ H :=
  h H (Ex.refl H) _ fun H2 e2 => ⟨p, dx, fs, rfl, e2 _ _ hp, l, ha H2 e2 _ fun H3 e3 => k H3 (e2.trans e3)⟩
theorem rv_addS {x y : Str} (h : x.length + y.length ≤ 100000) : RV (fun x y H Q => ∃ i j, x = V.str i ∧ y = V.str j ∧ i.length + j.length ≤ sizeLine ∧ Q (.str (i ++ j)) H) (.str x) (.str y) H (.str (x ++ y)) := fun H1 e Q q =>
  ⟨x, y, rfl, rfl, sz_of h, q H1 (Ex.refl H1)⟩
theorem ev_strI {i : Int} (h : Ev te σ H (.int i)) (hz : i.natAbs.log2 < 1920) : Ev (tCB (fun xs H Q => ∃ i, xs = [V.int i] ∧ i.natAbs.log2 < 1920 ∧ Q (.str (toString i)) H) (tCons te tNil)) σ H (.str (toString i)) := fun H1 e Q q =>
  h H1 e _ fun H2 e2 => ⟨i, rfl, hz, q H2 e2⟩
theorem str_len {i : Int} (h : i.natAbs.log2 < 1900) : (toString i : Str).length ≤ 1901 := by
  have := shown_le (k := 1900) (ns := [i]) (by decide) (fun n hn => by rw [List.mem_singleton.mp hn]; exact h) (toString i : Str) (by
    rw [shownAll_ints]
    exact List.mem_singleton.mpr rfl)
  exact this
/-- xs.pop() -/
theorem s_pop {l : Addr} {xs : List V} {y : V} (h : Ev ta σ H (.ref l)) (hl : H l = some (.lst (xs ++ [y]))) (k : ∀ H1, Ex H H1 → D.nx σ (upd H1 l (.lst xs))) : tDrop (tBM0 K "list" rPop ta) D σ H :=
  h H (Ex.refl H) _ fun H2 e2 => ⟨.inl ⟨rfl, xs ++ [y], sq_of (e2 _ _ hl)⟩, l, xs ++ [y], y, rfl, rfl, e2 _ _ hl, by simp, by rw [List.dropLast_concat]; exact k H2 e2⟩
theorem q_pop {l : Addr} {xs : List V} {y : V} (h : Ev ta σ H (.ref l)) (hl : H l = some (.lst (xs ++ [y]))) (k : ∀ H1, Ex H H1 → tz D σ (upd H1 l (.lst xs))) : tSeq (tDrop (tBM0 K "list" rPop ta)) tz D σ H :=
  s_pop (D := { D with nx := tz D }) h hl k
end
end Bk
namespace Bk
open PySem PySem.Spec PyProof.Rows L2 Evl
/-! ### values of other kinds -/
/-- a value that is no integer: None, a truth, a text, a list, a tuple, a dict -/
def OddV (H : Hp) (x : V) : Prop := x = .non ∨ (∃ b, x = .bl b) ∨ (∃ s, x = .str s) ∨ (∃ a xs, x = .ref a ∧ H a = some (.lst xs)) ∨ (∃ a xs, x = .ref a ∧ H a = some (.tup xs)) ∨ (∃ a kvs, x = .ref a ∧ H a = some (.dK kvs))
theorem OddV.ex {H H' : Hp} {x : V} (h : OddV H x) (e : Ex H H') : OddV H' x := by
  rcases h with h | h | h | ⟨a, xs, h, g⟩ | ⟨a, xs, h, g⟩ | ⟨a, xs, h, g⟩
  · exact .inl h
  · exact .inr (.inl h)
  · exact .inr (.inr (.inl h))
  · exact .inr (.inr (.inr (.inl ⟨a, xs, h, e _ _ g⟩)))
  · exact .inr (.inr (.inr (.inr (.inl ⟨a, xs, h, e _ _ g⟩))))
  · exact .inr (.inr (.inr (.inr (.inr ⟨a, xs, h, e _ _ g⟩))))
theorem kb_none_int : kitB "NoneType" "int" = some false := by decide +kernel
theorem kb_bool_int : kitB "bool" "int" = some true := by decide +kernel
theorem kb_bool_bool : kitB "bool" "bool" = some true := by decide +kernel
theorem kb_str_int : kitB "str" "int" = some false := by decide +kernel
theorem kb_list_int : kitB "list" "int" = some false := by decide +kernel
theorem kb_tuple_int : kitB "tuple" "int" = some false := by decide +kernel
theorem kb_dict_int : kitB "dict" "int" = some false := by decide +kernel
section
variable {K : PySem.W.Frag} {σ : L2.St} {H : Hp} {ta tb te tl : TE} {t tr : TA} {D : Ends} {tu tz : TS} {v : V} {P : V → Hp → Prop} {PL : List V → Hp → Prop} {n : Nat}
/-- isinstance(x, int) and not isinstance(x, bool), of a value of another kind -/
theorem ev_odd {x : V} (h : Ev ta σ H x) (h2 : Ev tb σ H x) (o : OddV H x) : Ev (tAndV (tCB (rIsi K) (tCons ta (tCons (tC (.ty "int")) tNil))) (tNotV (tCB (rIsi K) (tCons tb (tCons (tC (.ty "bool")) tNil))))) σ H (.bl false) := by
  rcases o with rfl | ⟨b, rfl⟩ | ⟨s, rfl⟩ | ⟨a, xs, rfl, g⟩ | ⟨a, xs, rfl, g⟩ | ⟨a, kvs, rfl, g⟩
  · exact ev_andV (a := false) (b := false) (ev_isi h (fun _ _ => .base .non) kb_none_int) (fun h => nomatch h)
  · exact ev_andV (a := true) (b := false) (ev_isi h (fun _ _ => .base (.bl b)) kb_bool_int) fun _ => ev_notV (ev_isi h2 (fun _ _ => .base (.bl b)) kb_bool_bool)
  · exact ev_andV (a := false) (b := false) (ev_isi h (fun _ _ => .base (.str s)) kb_str_int) (fun h => nomatch h)
  · exact ev_andV (a := false) (b := false) (ev_isi h (fun _ e => .base (.lst (e _ _ g))) kb_list_int) (fun h => nomatch h)
  · exact ev_andV (a := false) (b := false) (ev_isi h (fun _ e => .base (.tup (e _ _ g))) kb_tuple_int) (fun h => nomatch h)
  · exact ev_andV (a := false) (b := false) (ev_isi h (fun _ e => .base (.dK (e _ _ g))) kb_dict_int) (fun h => nomatch h)
theorem ep_V (h : Ev te σ H v) (k : ∀ H1, Ex H H1 → P v H1) : EvP te σ H P := fun H1 e Q q => h H1 e _ fun H2 e2 => q v H2 e2 (k H2 (e.trans e2))
theorem ep_D (k : ∀ p H1, H1 p = some (.dK []) → P (.ref p) H1) : EvP tDNewK σ H P := fun H1 e Q q p hp => q (.ref p) _ (Ex.new hp) (k p _ upd_same)
theorem ed_V {d : PyData} (h : Ev te σ H v) (hd : ∀ H1, Dp K H1 v d) : EvD K te σ H d := ep_V h fun H1 _ => hd H1
theorem sho_bool (b : Bool) : Sho (.bool b) := by cases b <;> exact ⟨rfl, rfl, by decide, by rw [sizeLine_eq]; decide⟩
/-- arguments, with what is known of them -/
def EvAP (t : TA) (σ : L2.St) (H : Hp) (P : List V → Hp → Prop) : Prop := ∀ H1, Ex H H1 → ∀ Q : List V → Hp → Prop, (∀ vs H2, Ex H1 H2 → P vs H2 → Q vs H2) → t σ H1 Q
def AllP (P : V → Hp → Prop) (n : Nat) (vs : List V) (H : Hp) : Prop := vs.length = n ∧ ∀ v ∈ vs, P v H
theorem ap_nil : EvAP tNil σ H (AllP P 0) := fun H1 e Q q => q [] H1 (Ex.refl H1) ⟨rfl, fun _ h => nomatch h⟩
theorem ap_cons (mono : ∀ v H1 H2, Ex H1 H2 → P v H1 → P v H2) (h : EvP te σ H P) (hr : EvAP tr σ H (AllP P n)) : EvAP (tCons te tr) σ H (AllP P (n + 1)) := fun H1 e Q q =>
  h H1 e _ fun x H2 e2 px => hr H2 (e.trans e2) _ fun xs H3 e3 ⟨l, pxs⟩ => q (x :: xs) H3 (e2.trans e3) ⟨by rw [List.length_cons, l], fun v hv => by
    rcases List.mem_cons.mp hv with rfl | hv
    · exact mono _ _ _ e3 px
    · exact pxs v hv⟩
/-- a new list, with what is known of its items -/
def EvLP (te : TE) (σ : L2.St) (H : Hp) (P : List V → Hp → Prop) : Prop := ∀ H1, Ex H H1 → ∀ Q : VK, (∀ p xs H2, H1 p = none → Ex H1 H2 → H2 p = some (.lst xs) → P xs H2 → Q (.ref p) H2) → te σ H1 Q
theorem el_lstP (mono : ∀ v H1 H2, Ex H1 H2 → P v H1 → P v H2) (h : EvAP t σ H (AllP P n)) (hn : n ≤ 100000) : EvLP (tLst t) σ H (AllP P n) := fun H1 e Q q =>
  h H1 e _ fun xs H2 e2 ⟨l, px⟩ => ⟨sz_of (by omega), fun p hp => q p xs _ (fresh_back e2 hp) (e2.trans (Ex.new hp)) upd_same ⟨l, fun v hv => mono _ _ _ (Ex.new hp) (px v hv)⟩⟩
theorem s_forLP {j : Nat} (h : EvLP tl σ H PL) (Pv : Addr → List V → Nat → L2.St → Hp → Prop) (h0 : ∀ p xs H1, H p = none → Ex H H1 → H1 p = some (.lst xs) → PL xs H1 → Pv p xs 0 σ H1)
    (hl : ∀ p xs i σ' H', i ≤ xs.length → Pv p xs i σ' H' → SqL K H' p xs)
    (hs : ∀ p xs i x σ' H', xs[i]? = some x → Pv p xs i σ' H' → tu { D with nx := Pv p xs (i + 1), ct := Pv p xs (i + 1), bk := D.nx } (σ'.set j (some x)) H') (hd : ∀ p xs σ' H', Pv p xs xs.length σ' H' → D.nx σ' H') : tFor (iList K tl) (gName j) tu D σ H :=
  h H (Ex.refl H) _ fun p xs H1 hp e h1 px => ⟨p, rfl, ⟨xs, sq_of h1⟩, for_list (Pv p xs) (h0 p xs H1 hp e h1 px) (hl p xs) (fun i x σ' H' hx k => hs p xs i x σ' H' hx k) (hd p xs)⟩
theorem q_forLP {j : Nat} (h : EvLP tl σ H PL) (Pv : Addr → List V → Nat → L2.St → Hp → Prop) (h0 : ∀ p xs H1, H p = none → Ex H H1 → H1 p = some (.lst xs) → PL xs H1 → Pv p xs 0 σ H1)
    (hl : ∀ p xs i σ' H', i ≤ xs.length → Pv p xs i σ' H' → SqL K H' p xs)
    (hs : ∀ p xs i x σ' H', xs[i]? = some x → Pv p xs i σ' H' → tu { D with nx := Pv p xs (i + 1), ct := Pv p xs (i + 1), bk := tz D } (σ'.set j (some x)) H') (hd : ∀ p xs σ' H', Pv p xs xs.length σ' H' → tz D σ' H') : tSeq (tFor (iList K tl) (gName j) tu) tz D σ H :=
  s_forLP (D := { D with nx := tz D }) h Pv h0 hl hs hd
theorem oddmono : ∀ (v : V) (H1 H2 : Hp), Ex H1 H2 → OddV H1 v → OddV H2 v := fun _ _ _ e h => h.ex e
theorem eo_V (h : Ev te σ H v) (k : v = .non ∨ (∃ b, v = .bl b) ∨ (∃ s, v = .str s)) : EvP te σ H (fun v H1 => OddV H1 v) := ep_V h fun H1 _ => by
  rcases k with k | k | k
  · exact .inl k
  · exact .inr (.inl k)
  · exact .inr (.inr (.inl k))
theorem eo_L {xs : List V} (h : EvL te σ H xs) : EvP te σ H (fun v H1 => OddV H1 v) := ep_L h fun p H1 H2 _ _ _ g => .inr (.inr (.inr (.inl ⟨p, xs, rfl, g⟩)))
theorem eo_U {xs : List V} (h : EvU te σ H xs) : EvP te σ H (fun v H1 => OddV H1 v) := ep_U h fun p H1 H2 _ _ _ g => .inr (.inr (.inr (.inr (.inl ⟨p, xs, rfl, g⟩))))
theorem eo_D : EvP tDNewK σ H (fun v H1 => OddV H1 v) := ep_D fun p H1 g => .inr (.inr (.inr (.inr (.inr ⟨p, [], rfl, g⟩))))
end
end Bk
namespace Bk
open PySem PySem.Spec PyProof.Rows L2 Evl
/-! ### counting and finding flat items -/
def rCountF (K : PySem.W.Frag) : V → List V → Hp → VK → Prop := fun x xs H Q => ∃ (a : Addr) (ys : List V) (y : V), x = V.ref a ∧ xs = [y] ∧ SqL K H a ys ∧ flatV y = true ∧ ys.all flatV = true ∧ Q (.int ((ys.countP fun z => eqV z y : Nat) : Int)) H
theorem countP_flat {y : V} {ys : List V} {us : List Value} (h : Vals ys us) (f : ys.all flatV = true) : us.countP (eqU y) = ys.countP fun z => eqV z y := by
  induction h with
  | nil => rfl
  | cons r rs ih =>
    rw [List.all_cons, Bool.and_eq_true] at f
    rw [List.countP_cons, List.countP_cons, ih f.2, eqU_of r f.1]
theorem mt_countF {X : Cx} {K : PySem.W.Frag} (hK : X.K = K) : MtR X "list.count" (rCountF K) := by
  subst hK
  intro pins s σ H x xs v us Q I rx rxs h
  obtain ⟨a, ys, y, rfl, rfl, hs, fy, fys, q⟩ := h
  cases rx
  cases rxs with
  | cons ry rt =>
    rename_i uy ut
    cases rt
    obtain ⟨its, rv, ⟨⟨cls, dd, data, sl⟩, n, ho, hc, hdn, hd⟩, hlen⟩ := I.list hs
    simp only at hc hd
    subst hc hd
    refine call_meets PySem.F.slot_list_count ⟨_, ho, rfl⟩ PySem.F.entry_list_count (PySem.F.args_list_count_2 _ _) (SeqAt.list_countAt a its.toArray n dd sl uy (eqU y)) ⟨ho, fun u' hu' => mem_eqAt ry fy rv fys u' (by simpa using hu'), ?_⟩
    rw [show its.toArray.toList = its from rfl, countP_flat rv fys]
    exact ⟨.int _, H, I.tok _, ⟨_, rfl⟩, q⟩
theorem mt_indexK {X : Cx} {K : PySem.W.Frag} (hK : X.K = K) : MtR X "list.index" (rIndex K) := by
  subst hK
  exact mt_index
section
variable {K : PySem.W.Frag} {σ : L2.St} {H : Hp} {ta tb : TE}
def vb (bs : List Bool) : List V := bs.map .bl
theorem vb_flat : ∀ bs : List Bool, (vb bs).all flatV = true
  | [] => rfl
  | _ :: r => by
    show (flatV _ && (vb r).all flatV) = true
    rw [vb_flat r]
    rfl
theorem vb_count : ∀ bs : List Bool, ((vb bs).countP fun z => eqV z (.bl true)) = bs.count true
  | [] => rfl
  | b :: r => by
    show ((V.bl b :: vb r).countP fun z => eqV z (.bl true)) = _
    rw [List.countP_cons, List.count_cons, vb_count r]
    cases b <;> rfl
theorem ev_countB {l : Addr} {bs : List Bool} (ha : Ev ta σ H (.ref l)) (h : H l = some (.lst (vb bs))) (hb : Ev tb σ H (.bl true)) : Ev (tBM K "list" (rCountF K) ta (tCons tb tNil)) σ H (.int ((bs.count true : Nat) : Int)) := fun H1 e Q q =>
  ha H1 e _ fun H2 e2 => ⟨Or.inl ⟨rfl, _, sq_of ((e.trans e2) _ _ h)⟩, hb H2 (e.trans e2) _ fun H3 e3 => ⟨l, vb bs, .bl true, rfl, rfl, sq_of (((e.trans e2).trans e3) _ _ h), rfl, vb_flat bs, by
    rw [vb_count]
    exact q H3 (e2.trans e3)⟩⟩
theorem ev_indexB {l : Addr} {bs : List Bool} {j : Nat} (ha : Ev ta σ H (.ref l)) (h : H l = some (.lst (vb bs))) (hb : Ev tb σ H (.bl true)) (hj : bs[j]? = some true) (hn : ∀ m, m < j → bs[m]? = some false) : Ev (tBM K "list" (rIndex K) ta (tCons tb tNil)) σ H (.int (j : Nat)) := fun H1 e Q q =>
  ha H1 e _ fun H2 e2 => ⟨Or.inl ⟨rfl, _, sq_of ((e.trans e2) _ _ h)⟩, hb H2 (e.trans e2) _ fun H3 e3 => ⟨l, vb bs, .bl true, j, .bl true, rfl, rfl, sq_of (((e.trans e2).trans e3) _ _ h), rfl, vb_flat bs, by
    show (bs.map V.bl)[j]? = _
    rw [List.getElem?_map, hj]
    rfl, rfl, fun m z hm hz => by
    have hz : (bs.map V.bl)[m]? = some z := hz
    rw [List.getElem?_map, hn m hm] at hz
    cases hz
    rfl, q H3 (e2.trans e3)⟩⟩
end
section
variable {K : PySem.W.Frag} {σ : L2.St} {H : Hp} {ta tb te tl : TE} {t : TA} {D : Ends} {tu tz : TS} {P : V → Hp → Prop} {PL : List V → Hp → Prop} {n : Nat}
/-- [(y, x, z) for x in a new list] -/
theorem el_lcTup {j : Nat} {vs : List Nat} {y z : V} (mono : ∀ v H1 H2, Ex H1 H2 → P v H1 → P v H2) (h : EvLP tl σ H (AllP P n)) (hn : n ≤ 40000) (hw : ∀ x, wipe ((wipe σ vs).set j (some x)) vs = wipe σ vs) (he : ∀ x H1, Ex H H1 → EvU te ((wipe σ vs).set j (some x)) H1 [y, x, z]) :
    EvLP (tLc (iList K tl) (gName j) tYes te vs) σ H (fun ys H2 => ys.length = n ∧ ∀ v ∈ ys, ∃ (t : Addr) (x : V), v = .ref t ∧ H2 t = some (.tup [y, x, z]) ∧ P x H2) := fun H0 e Q q =>
  h H0 e _ fun a xs H1 ha e1 hx ⟨hl, px⟩ => ⟨a, rfl, ⟨xs, sq_of hx⟩, fun Dl hD =>
    lc_list (xs := xs) (fun i H' => Ex H1 H' ∧ ∃ acc : List V, H' Dl = some (.lst acc) ∧ acc.length = i ∧ ∀ v ∈ acc, ∃ (t : Addr) (x : V), v = .ref t ∧ t ≠ Dl ∧ H' t = some (.tup [y, x, z]) ∧ x ∈ xs) ⟨Ex.new hD, [], upd_same, rfl, fun _ h => nomatch h⟩ (fun i H' _ p => sq_of (p.1 _ _ hx)) (fun i x H' hi p => ⟨hw x, by
      obtain ⟨p1, acc, g, la, pa⟩ := p
      have hi' := (List.getElem?_eq_some_iff.mp hi).1
      refine et_yes (σ := (wipe σ vs).set j (some x)) (H := H') H' (Ex.refl H') _ fun H3 e3 => iteT ?_
      refine he x H3 (((e.trans e1).trans p1).trans e3) H3 (Ex.refl H3) _ fun t H4 ht e4 g4 => ?_
      have nt : t ≠ Dl := fun q => by
        rw [q, e3 _ _ g] at ht
        cases ht
      have e34 := e3.trans e4
      refine ⟨acc, e34 _ _ g, sz_lt (by omega), (p1.trans e34).mut hD, acc ++ [.ref t], upd_same, by rw [List.length_append, la]; rfl, fun v hv => ?_⟩
      rcases List.mem_append.mp hv with hv | hv
      · obtain ⟨t', x', ev, nt', gt', mx⟩ := pa v hv
        exact ⟨t', x', ev, nt', by rw [upd_ne nt']; exact e34 _ _ gt', mx⟩
      · rw [List.mem_singleton.mp hv]
        exact ⟨t, x, rfl, nt, by rw [upd_ne nt]; exact g4, List.mem_of_getElem? hi⟩⟩)
    (fun H' ⟨p1, acc, g, la, pa⟩ => q Dl acc H' (fresh_back e1 hD) (e1.trans p1) g ⟨by omega, fun v hv => by
      obtain ⟨t', x', ev, nt', gt', mx⟩ := pa v hv
      exact ⟨t', x', ev, gt', mono _ _ _ p1 (px x' mx)⟩⟩)⟩
theorem elp_mono {PL' : List V → Hp → Prop} (h : EvLP te σ H PL) (m : ∀ xs H1, Ex H H1 → PL xs H1 → PL' xs H1) : EvLP te σ H PL' := fun H1 e Q q => h H1 e Q fun p xs H2 hp e2 g pl => q p xs H2 hp e2 g (m xs H2 (e.trans e2) pl)
theorem el_catP {p : Addr} {xs : List V} (ha : Ev ta σ H (.ref p)) (hp : H p = some (.lst xs)) (h : EvLP tb σ H PL) (hz : ∀ ys H1, PL ys H1 → xs.length + ys.length ≤ 100000) (mono : ∀ ys H1 H2, Ex H1 H2 → PL ys H1 → PL ys H2) : EvLP (tOp rCat ta tb) σ H (fun zs H2 => ∃ ys, zs = xs ++ ys ∧ PL ys H2) := fun H1 e Q q =>
  ha H1 e _ fun H2 e2 => h H2 (e.trans e2) _ fun r ys H3 hr e3 g3 pl => ⟨p, r, xs, ys, rfl, rfl, ((e.trans e2).trans e3) _ _ hp, g3, sz_of (hz ys H3 pl), fun l hl => q l _ _ (fresh_back (e2.trans e3) hl) ((e2.trans e3).trans (Ex.new hl)) upd_same ⟨ys, rfl, mono _ _ _ (Ex.new hl) pl⟩⟩
theorem s_asgLP {i : Nat} (h : EvLP te σ H PL) (k : ∀ p xs H1, H p = none → Ex H H1 → H1 p = some (.lst xs) → PL xs H1 → D.nx (σ.set i (some (.ref p))) H1) : tAsg te (gName i) D σ H := h H (Ex.refl H) _ fun p xs H1 hp e g pl => k p xs H1 hp e g pl
theorem q_asgLP {i : Nat} (h : EvLP te σ H PL) (k : ∀ p xs H1, H p = none → Ex H H1 → H1 p = some (.lst xs) → PL xs H1 → tz D (σ.set i (some (.ref p))) H1) : tSeq (tAsg te (gName i)) tz D σ H := s_asgLP (D := { D with nx := tz D }) h k
/-- for x, y, z in a list -/
theorem q_for3 {a : Addr} {xs : List V} {i j l : Nat} (h : Ev tl σ H (.ref a)) (hx : SqL K H a xs) (Pv : Nat → L2.St → Hp → Prop) (h0 : ∀ H1, Ex H H1 → Pv 0 σ H1) (hl : ∀ n σ' H', n ≤ xs.length → Pv n σ' H' → SqL K H' a xs)
    (hs : ∀ n v σ' H', xs[n]? = some v → Pv n σ' H' → ∃ t x y z, v = .ref t ∧ SqT K H' t [x, y, z] ∧ tu { D with nx := Pv (n + 1), ct := Pv (n + 1), bk := tz D } (((σ'.set i (some x)).set j (some y)).set l (some z)) H') (hd : ∀ σ' H', Pv xs.length σ' H' → tz D σ' H') :
    tSeq (tFor (iList K tl) (gTup K 3 (gCons (gName i) (gCons (gName j) (gCons (gName l) gNil)))) tu) tz D σ H :=
  h H (Ex.refl H) _ fun H1 e => ⟨a, rfl, ⟨xs, ex_l e hx⟩, for_list (D := { D with nx := tz D }) Pv (h0 H1 e) hl (fun n v σ' H' hv p => by
    obtain ⟨t, x, y, z, rfl, ht, q⟩ := hs n v σ' H' hv p
    exact ⟨t, _, rfl, ht, rfl, _, _, rfl, _, _, rfl, _, _, rfl, rfl, q⟩) hd⟩
theorem s_callS {sp : Sp} {E : L2.St → XK} {vs : List V} (ha : EvA t σ H vs) (k : ∀ H1, Ex H H1 → sp vs H1 (fun _ H2 => D.nx σ H2) (E σ)) : tDrop (tCallS sp E t) D σ H := ha H (Ex.refl H) _ fun H1 e1 => k H1 e1
end
end Bk
namespace Bk
open PySem PySem.Spec PyProof.Rows L2 Evl
/-! ### a tuple that the program holds -/
def FrT (K : PySem.W.Frag) (a : Addr) (xs : List V) : Prop := ∃ (o : Obj) (its : Array Value) (n : Nat), K.lookup a = some o ∧ o.cls = .type "tuple" ∧ o.data = .seq its n ∧ its.size ≤ sizeLine ∧ Vals xs its.toList
theorem FrT.sq {K : PySem.W.Frag} {a : Addr} {xs : List V} (h : FrT K a xs) {H : Hp} : SqT K H a xs := .inr h
theorem frt3 {K : PySem.W.Frag} {a : Addr} {od : Option Addr} {n : Nat} {sl : Array (Option Value)} {u1 u2 u3 : Value} {x1 x2 x3 : V} (h : K.lookup a = some ⟨.type "tuple", od, .seq #[u1, u2, u3] n, sl⟩) (r1 : RelV x1 u1) (r2 : RelV x2 u2) (r3 : RelV x3 u3) : FrT K a [x1, x2, x3] :=
  ⟨_, _, _, h, rfl, rfl, by
    rw [sizeLine_eq]
    show 3 ≤ _
    decide, .cons r1 (.cons r2 (.cons r3 .nil))⟩
theorem cr_anyK {X : Cx} {K : PySem.W.Frag} (h : X.K = K) (hc : X.calm = true) : CallR X (.builtin "any") (rAny K) := by
  subst h
  exact cr_any hc
theorem kb_str_str : kitB "str" "str" = some true := by decide +kernel
section
variable {K : PySem.W.Frag} {σ : L2.St} {H : Hp} {ta te tl : TE} {D : Ends} {tz : TS}
theorem ev_anyN {bs : List Bool} (ha : EvL ta σ H (bs.map V.bl)) : Ev (tCB (rAny K) (tCons ta tNil)) σ H (.bl (bs.any id)) := fun H1 e Q q =>
  ha H1 e _ fun p H2 hp2 e2 h2 => ⟨p, bs, rfl, sq_of h2, q H2 e2⟩
/-- x, y, z = a tuple -/
theorem q_tup3 {i j l : Nat} {t : Addr} {x y z : V} (h : Ev te σ H (.ref t)) (ht : SqT K H t [x, y, z]) (k : ∀ H1, Ex H H1 → tz D (((σ.set i (some x)).set j (some y)).set l (some z)) H1) : tSeq (tAsg te (gTup K 3 (gCons (gName i) (gCons (gName j) (gCons (gName l) gNil))))) tz D σ H :=
  h H (Ex.refl H) _ fun H1 e1 => ⟨t, _, rfl, ex_t e1 ht, rfl, _, _, rfl, _, _, rfl, _, _, rfl, rfl, k H1 e1⟩
/-- a comprehension over a tuple of triples -/
theorem el_lcT3 {a : Addr} {xs : List V} {i j l : Nat} {vs : List Nat} (v : Nat → V) (its : List (V × V × V)) (h : Ev tl σ H (.ref a)) (hx : SqT K H a xs) (hz : xs.length ≤ 40000) (h3 : ∀ (n : Nat) x, xs[n]? = some x → ∃ t p, x = .ref t ∧ its[n]? = some p ∧ SqT K H t [p.1, p.2.1, p.2.2])
    (hw : ∀ x y z, wipe ((((wipe σ vs).set i (some x)).set j (some y)).set l (some z)) vs = wipe σ vs) (he : ∀ (n : Nat) p H1, Ex H H1 → its[n]? = some p → Ev te ((((wipe σ vs).set i (some p.1)).set j (some p.2.1)).set l (some p.2.2)) H1 (v n)) :
    EvL (tLc (iTup K tl) (gTup K 3 (gCons (gName i) (gCons (gName j) (gCons (gName l) gNil)))) tYes te vs) σ H (given xs.length (fun _ => true) v) := fun H0 e Q q => h H0 e _ fun H1 e1 => ⟨a, rfl, ⟨xs, ex_t (e.trans e1) hx⟩, fun Dl hD =>
  lc_tup (xs := xs) (Cw H1 (fun _ => true) v Dl) ⟨hD, Ex.new hD, upd_same⟩ (fun i H' _ p => ex_t ((e.trans e1).trans p.2.1) hx) (fun n x H' hi p => by
    have hl := (List.getElem?_eq_some_iff.mp hi).1
    obtain ⟨t, w, rfl, hp, ht⟩ := h3 n x hi
    exact ⟨t, _, rfl, ex_t ((e.trans e1).trans p.2.1) ht, rfl, _, _, rfl, _, _, rfl, _, _, rfl, rfl, hw _ _ _, cw_turn p (by omega) (fun H3 _ Q q => q H3 (Ex.refl H3)) fun _ => he n w H1 (e.trans e1) hp⟩)
    (fun H' p => q Dl H' (fresh_back e1 p.1) (e1.trans p.2.1) p.2.2)⟩
end
end Bk
namespace Bk
open PySem PySem.Spec PyProof.Rows L2 Evl SX
/-! ### texts: rules and readings -/
def rJoin (K : PySem.W.Frag) : V → List V → Hp → VK → Prop := fun x xs H Q => ∃ a p, ∃ ys : List Str, x = .str a ∧ xs = [.ref p] ∧ (SqL K H p (ys.map V.str) ∨ SqT K H p (ys.map V.str)) ∧ (ys.map (·.length)).sum + ys.length * a.length ≤ 16777216 ∧ Q (.str (Txt.join a ys)) H
def rSplit : V → List V → Hp → VK → Prop := fun x xs H Q => ∃ a b, x = .str a ∧ xs = [.str b] ∧ (b.length == 0) = false ∧ a.length + 2 ≤ sizeLine ∧ rNewStrs (Txt.split a b) H Q
def rT0 (g : Str → V) : V → List V → Hp → VK → Prop := fun x xs H Q => ∃ a, x = .str a ∧ xs = [] ∧ True ∧ Q (g a) H
def rT1 (g : Str → Str → V) : V → List V → Hp → VK → Prop := fun x xs H Q => ∃ a b, x = .str a ∧ xs = [.str b] ∧ Q (g a b) H
section
variable {X : Cx}
theorem mt_joinK {K : PySem.W.Frag} (h : X.K = K) : MtR X "str.join" (rJoin K) := by
  subst h
  exact mt_join
theorem mt_splitR : MtR X "str.split" rSplit := mt_split
theorem mt_isdigit0 : MtR X "str.isdigit" (rT0 fun a => .bl (Txt.isdigit a)) := mt_isdigit
theorem mt_isascii0 : MtR X "str.isascii" (rT0 fun a => .bl (Txt.isascii a)) := mt_isascii
theorem mt_startswith1 : MtR X "str.startswith" (rT1 fun a b => .bl (Txt.startswith a b)) := mt_startswith
theorem mt_endswith1 : MtR X "str.endswith" (rT1 fun a b => .bl (Txt.endswith a b)) := mt_endswith
end
section
variable {K : PySem.W.Frag} {σ : L2.St} {H : Hp} {ta tb te : TE} {a b : Str}
theorem ev_t0 {g : Str → V} (h : Ev ta σ H (.str a)) : Ev (tM0 (rT0 g) ta) σ H (g a) := fun H1 e Q q => h H1 e _ fun H2 e2 => ⟨⟨a, rfl⟩, a, rfl, rfl, trivial, q H2 e2⟩
theorem ev_t1 {g : Str → Str → V} (h : Ev ta σ H (.str a)) (h' : Ev tb σ H (.str b)) : Ev (tM1 (rT1 g) ta tb) σ H (g a b) := fun H1 e Q q => h H1 e _ fun H2 e2 => ⟨⟨a, rfl⟩, h' H2 (e.trans e2) _ fun H3 e3 => ⟨a, b, rfl, rfl, q H3 (e2.trans e3)⟩⟩
theorem ev_joinN {ys : List Str} (h : Ev ta σ H (.str a)) (h' : EvL tb σ H (ys.map V.str)) (hz : (ys.map (·.length)).sum + ys.length * a.length ≤ 16777216) : Ev (tM1 (rJoin K) ta tb) σ H (.str (Txt.join a ys)) := fun H1 e Q q =>
  h H1 e _ fun H2 e2 => ⟨⟨a, rfl⟩, h' H2 (e.trans e2) _ fun p H3 _ e3 g => ⟨a, p, ys, rfl, rfl, .inl (sq_of g), hz, q H3 (e2.trans e3)⟩⟩
theorem ev_join {ys : List Str} {p : Addr} (h : Ev ta σ H (.str a)) (h' : Ev tb σ H (.ref p)) (g : SqL K H p (ys.map V.str)) (hz : (ys.map (·.length)).sum + ys.length * a.length ≤ 16777216) : Ev (tM1 (rJoin K) ta tb) σ H (.str (Txt.join a ys)) := fun H1 e Q q =>
  h H1 e _ fun H2 e2 => ⟨⟨a, rfl⟩, h' H2 (e.trans e2) _ fun H3 e3 => ⟨a, p, ys, rfl, rfl, .inl (ex_l ((e.trans e2).trans e3) g), hz, q H3 (e2.trans e3)⟩⟩
theorem el_split (h : Ev ta σ H (.str a)) (h' : Ev tb σ H (.str b)) (hb : (b.length == 0) = false) (hz : a.length + 2 ≤ sizeLine) : EvL (tM1 rSplit ta tb) σ H ((Txt.split a b).map V.str) := fun H1 e Q q =>
  h H1 e _ fun H2 e2 => ⟨⟨a, rfl⟩, h' H2 (e.trans e2) _ fun H3 e3 => ⟨a, b, rfl, rfl, hb, hz, fun p hp => q p _ (fresh_back (e2.trans e3) hp) ((e2.trans e3).trans (Ex.new hp)) upd_same⟩⟩
theorem ev_bits {i : Int} (h : Ev ta σ H (.int i)) : Ev (tBits ta) σ H (.int (Builtin.Int.intBits i : Nat)) := fun H1 e Q q => h H1 e _ fun H2 e2 => ⟨i, rfl, q H2 e2⟩
theorem ev_slS {tl th : TO} {z : Str} {lo hi : Option Int} (h : Ev te σ H (.str z)) (h1 : EvO tl σ H lo) (h2 : EvO th σ H hi) (hz : z.length ≤ sizeLine) : Ev (tSl L2.rSlS te tl th) σ H (.str (cutS z lo hi)) := fun H1 e Q q =>
  h H1 e _ fun H2 e2 => h1 H2 (e.trans e2) _ fun H3 e3 => h2 H3 ((e.trans e2).trans e3) _ fun H4 e4 => ⟨z, rfl, hz, q H4 ((e2.trans e3).trans e4)⟩
theorem ev_intS {n : Int} (h : Ev ta σ H (.str a)) (hn : PySem.intText? a = some n) (hl : a.length ≤ 640) : Ev (tCB (fun xs H Q => ∃ a n, xs = [V.str a] ∧ PySem.intText? a = some n ∧ a.length ≤ 640 ∧ Q (.int n) H) (tCons ta tNil)) σ H (.int n) := fun H1 e Q q =>
  h H1 e _ fun H2 e2 => ⟨a, n, rfl, hn, hl, q H2 e2⟩
theorem ev_lenS (h : Ev ta σ H (.str a)) (hz : a.length ≤ sizeLine) : Ev (tCB (fun xs H Q => ∃ z : Str, xs = [V.str z] ∧ z.length ≤ sizeLine ∧ Q (.int z.length) H) (tCons ta tNil)) σ H (.int (a.length : Int)) := fun H1 e Q q => h H1 e _ fun H2 e2 => ⟨a, rfl, hz, q H2 e2⟩
variable {D : Ends} {tu tz : TS}
theorem q_forNEn {xs : List V} {tl : TE} {i j : Nat} (h : EvL tl σ H xs) (Pv : Addr → Nat → L2.St → Hp → Prop) (h0 : ∀ p H1, H p = none → Ex H H1 → H1 p = some (.lst xs) → Pv p 0 σ H1) (hl : ∀ p n σ' H', n ≤ xs.length → Pv p n σ' H' → SqL K H' p xs)
    (hs : ∀ p n x σ' H', xs[n]? = some x → Pv p n σ' H' → ∀ H1, Ex H' H1 → tu { D with nx := Pv p (n + 1), ct := Pv p (n + 1), bk := tz D } ((σ'.set i (some (.int (n : Nat)))).set j (some x)) H1) (hd : ∀ p σ' H', Pv p xs.length σ' H' → tz D σ' H') :
    tSeq (tFor (iEnum K (tCons tl tNil)) (g2 K i j) tu) tz D σ H :=
  h H (Ex.refl H) _ fun p H1 hp e h1 => ⟨p, xs, rfl, sq_of h1, for_Ite (D := { D with nx := tz D }) (Pv p) (h0 p H1 hp e h1) (hl p) (hs p) (hd p)⟩
end
section
variable {σ : L2.St} {H : Hp} {D : Ends} {tu tz : TS}
theorem q_forR3G {ta : TA} {i : Nat} {lo j c : Int} (h : EvA ta σ H [.int lo, .int j, .int c]) (l0 : 0 ≤ lo) (l1 : lo ≤ 100000) (h0 : 0 ≤ j) (h1 : j ≤ 100000) (c0 : 0 < c) (c1 : c ≤ 100000) (Pv : Nat → L2.St → Hp → Prop) (hp0 : ∀ H1, Ex H H1 → Pv 0 σ H1)
    (hs : ∀ (k : Nat) σ' H', lo + (k : Int) * c < j → Pv k σ' H' → tu { D with nx := Pv (k + 1), ct := Pv (k + 1), bk := tz D } (σ'.set i (some (.int (lo + (k : Int) * c)))) H') (hd : ∀ (k : Nat) σ' H', j ≤ lo + (k : Int) * c → Pv k σ' H' → tz D σ' H') : tSeq (tFor (iRng3 ta) (gName i) tu) tz D σ H :=
  s_forR3G (D := { D with nx := tz D }) h l0 l1 h0 h1 c0 c1 Pv hp0 hs hd
end
/-! ### texts: mathematics -/
theorem asc_S (l : List Nat) : Txt.isascii (S l) = l.all fun c => decide (c < 128) := by
  show (S l).cps.all _ = _
  rw [← Array.all_toList]
theorem dig_one : ∀ c : Fin 128, Unicode.isDigit c.val = (decide (48 ≤ c.val) && decide (c.val ≤ 57)) := by decide +kernel
def dg (c : Nat) : Bool := decide (48 ≤ c) && decide (c ≤ 57)
theorem dig_S {l : List Nat} (h : (l.all fun c => decide (c < 128)) = true) : Txt.isdigit (S l) = (decide (0 < l.length) && l.all dg) := by
  have e : Txt.isdigit (S l) = (decide (0 < l.length) && l.all Unicode.isDigit) := by
    show (decide ((S l).length > 0) && (S l).cps.all Unicode.isDigit) = _
    rw [S_len, ← Array.all_toList]
  rw [e]
  congr 1
  induction l with
  | nil => rfl
  | cons c r ih =>
    rw [List.all_cons, Bool.and_eq_true] at h
    rw [List.all_cons, List.all_cons, dig_one ⟨c, of_decide_eq_true h.1⟩]
    show (dg c && _) = _
    congr 1
    have e2 : Txt.isdigit (S r) = (decide (0 < r.length) && r.all Unicode.isDigit) := by
      show (decide ((S r).length > 0) && (S r).cps.all Unicode.isDigit) = _
      rw [S_len, ← Array.all_toList]
    exact ih h.2 e2
theorem dg_asc {l : List Nat} (h : l.all dg = true) : (l.all fun c => decide (c < 128)) = true := by
  rw [List.all_eq_true] at h ⊢
  intro c hc
  have := h c hc
  unfold dg at this
  simp only [Bool.and_eq_true, decide_eq_true_eq] at this
  exact decide_eq_true (by omega)
theorem starts_S (l m : List Nat) : Txt.startswith (S l) (S m) = (l.take m.length == m) := by
  unfold Txt.startswith
  rw [PySem.StrLaws.subAt_eq, S_len, S_len]
  show (decide (0 + m.length ≤ l.length) && ((l.drop 0).take m.length == m)) = _
  rw [List.drop_zero, Nat.zero_add]
  by_cases h : m.length ≤ l.length
  · rw [decide_eq_true h, Bool.true_and]
  · rw [decide_eq_false h, Bool.false_and]
    cases e : (l.take m.length == m) with
    | false => rfl
    | true =>
      have e1 := congrArg List.length (eq_of_beq e)
      rw [List.length_take] at e1
      omega
/-- the number that stands in a text from 0 on -/
def natT (l : List Nat) : Option Nat := if l.all dg = true ∧ l ≠ [] ∧ (l.take 1 = [48] → l = [48]) then some (NumText.digitsVal l) else none
def wholeT (l : List Nat) : Option Int := if l.take 1 = [45] then (match natT (l.drop 1) with | some n => if n = 0 then none else some (-(n : Int)) | none => none) else (match natT l with | some n => some (n : Int) | none => none)
def numT (n : Int) : List Nat := if n < 0 then 45 :: TL.numL n.natAbs else TL.numL n.natAbs
theorem dg_num (n : Nat) : (TL.numL n).all dg = true := by
  rw [List.all_eq_true]
  intro c hc
  have := TL.numL_digits n c hc
  unfold dg
  simp only [Bool.and_eq_true, decide_eq_true_eq]
  exact this
theorem numL_head (n : Nat) (h : n ≠ 0) : ∃ c r, TL.numL n = c :: r ∧ 49 ≤ c := by
  induction n using Nat.strongRecOn with
  | _ n ih =>
    by_cases h1 : n < 10
    · rw [TL.numL_lt h1]
      exact ⟨48 + n, [], rfl, by omega⟩
    · rw [TL.numL_step (by omega)]
      obtain ⟨c, r, e, k⟩ := ih (n / 10) (by omega) (by omega)
      rw [e]
      exact ⟨c, r ++ [48 + n % 10], rfl, k⟩
theorem natT_num (n : Nat) : natT (TL.numL n) = some n := by
  have key : (TL.numL n).take 1 = [48] → TL.numL n = [48] := fun h => by
    by_cases h0 : n = 0
    · subst h0
      rw [TL.numL_lt (by decide)]
    · obtain ⟨c, r, e, k⟩ := numL_head n h0
      rw [e] at h
      injection h with h1
      omega
  unfold natT
  rw [if_pos ⟨dg_num n, TL.numL_ne n, key⟩, TL.numL_val]
theorem wholeT_num (n : Int) : wholeT (numT n) = some n := by
  unfold wholeT numT
  by_cases h : n < 0
  · rw [if_pos h, if_pos (show (45 :: TL.numL n.natAbs).take 1 = [45] from rfl)]
    show (match natT (TL.numL n.natAbs) with | some n => if n = 0 then none else some (-(n : Int)) | none => none) = some n
    rw [natT_num]
    show (if n.natAbs = 0 then none else some (-(n.natAbs : Int))) = some n
    rw [if_neg (by omega)]
    congr 1
    omega
  · rw [if_neg h, if_neg, natT_num]
    · show some ((n.natAbs : Nat) : Int) = some n
      congr 1
      omega
    · intro z
      cases e : TL.numL n.natAbs with
      | nil => exact TL.numL_ne _ e
      | cons c r =>
        rw [e] at z
        injection z with z1
        have := TL.numL_digits n.natAbs c (by rw [e]; exact List.mem_cons_self ..)
        omega
theorem str_num (n : Int) : (Str.ofString (toString n)) = S (numT n) := by
  refine TL.ext_tl ?_
  unfold numT
  by_cases h : n < 0
  · obtain ⟨m, rfl⟩ : ∃ m : Nat, n = Int.negSucc m := ⟨n.natAbs - 1, by omega⟩
    rw [if_pos h]
    show TL.tl (Str.ofString ("-" ++ toString (m + 1))) = 45 :: TL.numL (m + 1)
    rw [TL.tl_ofString, String.toList_append, List.map_append, ← TL.tl_num (m + 1), TL.tl_ofString]
    rfl
  · obtain ⟨m, rfl⟩ : ∃ m : Nat, n = m := ⟨n.toNat, by omega⟩
    rw [if_neg h]
    exact TL.tl_num m
theorem natT_val {l : List Nat} {n : Nat} (h : natT l = some n) (hl : l.length ≤ 4300) : PySem.intText? (S l) = some (n : Int) := by
  unfold natT at h
  split at h
  · rename_i c
    cases h
    refine int_S ?_ c.2.1 hl
    exact c.1
  · cases h
def optI : Option Int → V
  | none => .non
  | some n => .int n
def optN : Option Nat → V
  | none => .non
  | some n => .int (n : Int)
theorem cut_from (l : List Nat) (k : Nat) : cutS (S l) (some (k : Int)) none = S (l.drop k) := by
  unfold cutS
  rw [S_len, HT.sIx_nat, HT.sIx_none]
  refine TL.ext_tl ?_
  show (l.drop (min k l.length)).take (l.length - min k l.length) = l.drop k
  by_cases h : k ≤ l.length
  · rw [Nat.min_eq_left h]
    exact List.take_of_length_le (by rw [List.length_drop]; omega)
  · rw [Nat.min_eq_right (by omega), List.drop_length, List.take_nil, List.drop_eq_nil_of_le (by omega)]
theorem cut_both (l : List Nat) (j k : Nat) : cutS (S l) (some (j : Int)) (some (k : Int)) = S ((l.drop j).take (k - j)) := by
  unfold cutS
  rw [S_len, HT.sIx_nat, HT.sIx_nat]
  refine TL.ext_tl ?_
  show (l.drop (min j l.length)).take (min k l.length - min j l.length) = (l.drop j).take (k - j)
  by_cases h : j ≤ l.length
  · rw [Nat.min_eq_left h]
    by_cases h2 : k ≤ l.length
    · rw [Nat.min_eq_left h2]
    · rw [Nat.min_eq_right (show l.length ≤ k by omega), List.take_of_length_le (by rw [List.length_drop]; omega), List.take_of_length_le (by rw [List.length_drop]; omega)]
  · rw [Nat.min_eq_right (show l.length ≤ j by omega), List.drop_length, List.take_nil, List.drop_eq_nil_of_le (by omega), List.take_nil]
theorem numT_len {n : Int} {k : Nat} (hk : 0 < k) (h0 : -(10 ^ k) < n) (h1 : n < 10 ^ k) : (numT n).length ≤ k + 1 := by
  have hn : n.natAbs < 10 ^ k := by
    have e : ((10 : Int) ^ k) = ((10 ^ k : Nat) : Int) := by simp
    rw [e] at h0 h1
    omega
  have := TL.numL_len hk hn
  unfold numT
  split
  · rw [List.length_cons]
    omega
  · omega
theorem slen (l : List Nat) (h : l.length ≤ 100000) : (S l).length ≤ sizeLine := by
  rw [S_len]
  exact sz_of h
/-- the texts of numbers, with a comma and a blank between -/
def rowT (ns : List Int) : List Nat := TL.joinL [44, 32] (ns.map numT)
theorem numT_free (n : Int) : ∀ c ∈ numT n, c = 45 ∨ (48 ≤ c ∧ c ≤ 57) := by
  intro c hc
  unfold numT at hc
  split at hc
  · rcases List.mem_cons.mp hc with h | h
    · exact .inl h
    · exact .inr (TL.numL_digits _ c h)
  · exact .inr (TL.numL_digits _ c hc)
theorem joinL_len (sep : List Nat) : ∀ ps : List (List Nat), (TL.joinL sep ps).length ≤ (ps.map (·.length)).sum + ps.length * sep.length
  | [] => by simp [TL.joinL]
  | [p] => by simp [TL.joinL]
  | p :: q :: r => by
    show (p ++ (sep ++ TL.joinL sep (q :: r))).length ≤ _
    have ih := joinL_len sep (q :: r)
    simp only [List.length_append, List.map_cons, List.sum_cons, List.length_cons, Nat.succ_mul] at ih ⊢
    omega
theorem split_row {ns : List Int} (h : ns ≠ []) : Txt.split (S (rowT ns)) (S [44, 32]) = ns.map fun n => S (numT n) := by
  rw [split_S (by decide) (by decide)]
  unfold rowT
  rw [spl_join (by simp [h])]
  · rw [List.map_map]
    rfl
  · intro p hp
    obtain ⟨n, _, rfl⟩ := List.mem_map.mp hp
    intro hc
    have := numT_free n _ hc
    omega
theorem join_row (ns : List Int) : Txt.join (S [44, 32]) (ns.map fun n => S (numT n)) = S (rowT ns) := by
  have := join_S [44, 32] (ns.map numT)
  rw [List.map_map] at this
  exact this
theorem numT_inj {m n : Int} (h : numT m = numT n) : m = n := by
  have := wholeT_num m
  rw [h, wholeT_num] at this
  cases this
  rfl
theorem log_num {n : Int} (h : n.natAbs < 2 ^ 1900) : n.natAbs.log2 < 1920 := Nat.lt_of_lt_of_le (PySem.Flt.log2_lt_of (k := 1900) (by decide) h) (by decide)
theorem bits_num {n : Int} (h : n.natAbs < 2 ^ 1900) : (((PySem.Builtin.Int.intBits n : Nat) : Int) ≤ 14000) := by
  have := PyProof.Rows.intBits_le h
  omega
theorem num_neg {n : Int} (h : n < 0) : ("-" : Str) ++ S (numT (-n)) = S (numT n) := by
  have e : numT n = 45 :: numT (-n) := by
    unfold numT
    rw [if_pos h, if_neg (by omega), Int.natAbs_neg]
  rw [e]
  exact S_cat [45] (numT (-n))
theorem numT_lt {n : Int} (h : n.natAbs < 2 ^ 1900) : (numT n).length ≤ 1901 := by
  have := str_len (i := n) (Nat.lt_of_lt_of_le (PySem.Flt.log2_lt_of (k := 1900) (by decide) h) (by decide))
  have e : (toString n : Str).length = (numT n).length := by
    show (Str.ofString (toString n)).length = _
    rw [str_num, S_len]
  omega
end Bk
namespace Bk
open PySem PySem.Spec PyProof.Rows L2 Evl SX
/-! ### f'..': readings -/
def EvJ (ts : List TE) (σ : L2.St) (H : Hp) (acc out : List Nat) : Prop := ∀ H1, Ex H H1 → ∀ Q : Str → Hp → Prop, (∀ H2, Ex H1 H2 → Q (S out) H2) → tJs ts (S acc) σ H1 Q
section
variable {K : PySem.W.Frag} {σ : L2.St} {H : Hp} {t te ta tb : TE} {ts : List TE} {a b out : List Nat}
theorem ej_nil : EvJ [] σ H a a := fun H1 e Q q => q H1 (Ex.refl H1)
theorem ej_cons (h : Ev t σ H (.str (S b))) (hz : a.length + b.length ≤ 100000) (r : EvJ ts σ H (a ++ b) out) : EvJ (t :: ts) σ H a out := fun H1 e Q q =>
  h H1 e _ fun H2 e2 => ⟨S b, rfl, by rw [S_cat, S_len, List.length_append]; exact sz_of hz, by
    rw [S_cat]
    exact r H2 (e.trans e2) Q fun H3 e3 => q H3 (e2.trans e3)⟩
theorem ev_js (h : EvJ ts σ H [] out) : Ev (fun σ H Q => tJs ts Str.empty σ H fun out H1 => Q (.str out) H1) σ H (.str (S out)) := fun H1 e Q q => h H1 e _ fun H2 e2 => q H2 e2
theorem ev_fmt {y : List Nat} (h : Ev te σ H (.str (S y))) (hz : y.length ≤ 100000) : Ev (tFmt te) σ H (.str (S y)) := fun H1 e Q q => h H1 e _ fun H2 e2 => .inl ⟨S y, rfl, slen y hz, q H2 e2⟩
theorem ev_addT (h : Ev ta σ H (.str (S a))) (h' : Ev tb σ H (.str (S b))) (hz : a.length + b.length ≤ 100000) : Ev (tOp (fun x y H Q => ∃ i j, x = V.str i ∧ y = V.str j ∧ i.length + j.length ≤ sizeLine ∧ Q (.str (i ++ j)) H) ta tb) σ H (.str (S (a ++ b))) :=
  ev_is (ev_op h h' (rv_addS (by rw [S_len, S_len]; exact hz))) (congrArg V.str (S_cat a b))
end
/-! ### lists of texts compared -/
def vs (ys : List (List Nat)) : List V := ys.map fun l => .str (S l)
def ds (ys : List (List Nat)) : List PyData := ys.map fun l => .str (S l)
def strsOk (ys : List (List Nat)) : Prop := ∀ l ∈ ys, (l.all fun c => decide (c < 1114112)) = true
theorem strsOk_of {ys : List (List Nat)} (h : (ys.all fun l => l.all fun c => decide (c < 1114112)) = true) : strsOk ys := fun l hl => List.all_eq_true.mp h l hl
theorem ok_S {l : List Nat} (h : (l.all fun c => decide (c < 1114112)) = true) : PyData.strOk (S l) = true := by
  show (S l).cps.all _ = true
  rw [← Array.all_toList]
  exact h
theorem dpAll_strs (K : PySem.W.Frag) (H : Hp) : ∀ ys : List (List Nat), DpAll K H (vs ys) (ds ys)
  | [] => .nil
  | y :: ys => .cons (.str _) (dpAll_strs K H ys)
theorem canLay_strs : ∀ {ys : List (List Nat)}, strsOk ys → PyData.canLayAll0 (ds ys) = true
  | [], _ => rfl
  | y :: ys, h => by
    show PyData.canLayAll0 (.str (S y) :: ds ys) = true
    rw [PyData.canLayAll0, PyData.canLay0, ok_S (h y (List.mem_cons_self ..)), canLay_strs fun l m => h l (List.mem_cons_of_mem _ m)]
    rfl
theorem depth_strs : ∀ ys : List (List Nat), PyData.depthAll (ds ys) = 0
  | [] => rfl
  | y :: ys => by
    show PyData.depthAll (.str (S y) :: ds ys) = 0
    rw [PyData.depthAll, PyData.depth, depth_strs ys]
    rfl
theorem shaped_strs {ys : List (List Nat)} (h : strsOk ys) : SeqAt.shaped (.list (ds ys)) = true := by
  unfold SeqAt.shaped
  rw [PyData.canLay0, PyData.depth, canLay_strs h, depth_strs]
  rfl
theorem eqvAll_strs : ∀ as bs : List (List Nat), PyData.eqvAll (ds as) (ds bs) = decide (as = bs)
  | [], [] => rfl
  | [], _ :: _ => rfl
  | _ :: _, [] => rfl
  | a :: as, b :: bs => by
    show PyData.eqvAll (.str (S a) :: ds as) (.str (S b) :: ds bs) = _
    rw [PyData.eqvAll, PyData.eqv, eqvAll_strs as bs, S_beq]
    by_cases h : a = b
    · by_cases h2 : as = bs
      · simp [h, h2]
      · simp [h, h2]
    · simp [h]
section
variable {K : PySem.W.Frag} {σ : L2.St} {H : Hp} {ta tb : TE} {as bs : List (List Nat)}
theorem ev_eqTT (ha : strsOk as) (hb : strsOk bs) (h1 : EvL ta σ H (vs as)) (h2 : EvL tb σ H (vs bs)) : Ev (tOp (rEqD K) ta tb) σ H (.bl (decide (as = bs))) := fun H1 e Q k =>
  h1 H1 e _ fun p H2 _ e2 g2 => h2 H2 (e.trans e2) _ fun q H3 _ e3 g3 => ⟨.list (ds as), .list (ds bs), .lst (sq_of (e3 _ _ g2)) (dpAll_strs K H3 as), .lst (sq_of g3) (dpAll_strs K H3 bs), shaped_strs ha, shaped_strs hb, by
    rw [PyData.eqv, eqvAll_strs]
    exact k H3 (e2.trans e3)⟩
theorem ev_eqPT {p : Addr} (ha : strsOk as) (hb : strsOk bs) (h1 : Ev ta σ H (.ref p)) (g : SqL K H p (vs as)) (h2 : EvL tb σ H (vs bs)) : Ev (tOp (rEqD K) ta tb) σ H (.bl (decide (as = bs))) := fun H1 e Q k =>
  h1 H1 e _ fun H2 e2 => h2 H2 (e.trans e2) _ fun q H3 _ e3 g3 => ⟨.list (ds as), .list (ds bs), .lst (ex_l ((e.trans e2).trans e3) g) (dpAll_strs K H3 as), .lst (sq_of g3) (dpAll_strs K H3 bs), shaped_strs ha, shaped_strs hb, by
    rw [PyData.eqv, eqvAll_strs]
    exact k H3 (e2.trans e3)⟩
end
theorem tup_lst {H : Hp} {r l : Addr} {us xs : List V} (h : H r = some (.tup us)) (g : H l = some (.lst xs)) : r ≠ l := fun z => by
  rw [z, g] at h
  cases h
theorem well_lst {H : Hp} {a : Addr} {n : Nat} (w : Well H a n) : ∃ xs, H a = some (.lst xs) := by
  obtain ⟨x, y, c, q1, q2⟩ := w
  exact ⟨_, q1⟩
/-! ### the texts of rules: split at ' + ' -/
theorem pre_plus {p q : List Nat} (h : 43 ∉ p) : ∀ i, i < p.length → TL.pre [32, 43, 32] ((p ++ ([32, 43, 32] ++ q)).drop i) = false := fun i hi => by
  have hlt : i < (p ++ ([32, 43, 32] ++ q)).length := by rw [List.length_append]; omega
  rw [List.drop_eq_getElem_cons hlt]
  have hlt2 : i + 1 < (p ++ ([32, 43, 32] ++ q)).length := by
    rw [List.length_append, List.length_append]
    show _ < _ + (3 + _)
    omega
  rw [List.drop_eq_getElem_cons hlt2]
  have n2 : (p ++ ([32, 43, 32] ++ q))[i + 1] ≠ 43 := by
    by_cases c : i + 1 < p.length
    · rw [List.getElem_append_left c]
      exact fun z => h (z ▸ List.getElem_mem c)
    · rw [List.getElem_append_right (by omega)]
      have e : i + 1 - p.length = 0 := by omega
      simp only [e]
      show (32 : Nat) ≠ 43
      decide
  generalize (p ++ ([32, 43, 32] ++ q))[i] = c1
  generalize (p ++ ([32, 43, 32] ++ q))[i + 1] = c2 at n2
  show ((c1 :: c2 :: _).take 3 == [32, 43, 32]) = false
  refine beq_eq_false_iff_ne.mpr fun z => ?_
  simp only [List.take_succ_cons, List.cons.injEq] at z
  exact n2 z.2.1
theorem pre_plus_last {p : List Nat} (h : 43 ∉ p) : ∀ i, i < p.length → TL.pre [32, 43, 32] (p.drop i) = false := fun i hi => by
  rw [List.drop_eq_getElem_cons hi]
  have hm : 43 ∉ p.drop (i + 1) := fun m => h (List.mem_of_mem_drop m)
  generalize p[i] = c1
  generalize p.drop (i + 1) = r at hm
  show ((c1 :: r).take 3 == [32, 43, 32]) = false
  refine beq_eq_false_iff_ne.mpr fun z => ?_
  cases r with
  | nil => simp at z
  | cons c2 r =>
    simp only [List.take_succ_cons, List.cons.injEq] at z
    exact hm (by rw [z.2.1]; exact List.mem_cons_self ..)
theorem spl_plus : ∀ {parts : List (List Nat)}, parts ≠ [] → (∀ p ∈ parts, 43 ∉ p) → TL.spl [32, 43, 32] 0 [] (TL.joinL [32, 43, 32] parts) = parts
  | [], h, _ => absurd rfl h
  | [p], _, hp => by
    show TL.spl [32, 43, 32] 0 [] p = [p]
    rw [TL.spl_last (pre_plus_last (hp p (List.mem_singleton.mpr rfl))), List.nil_append]
  | p :: q :: r, _, hp => by
    show TL.spl [32, 43, 32] 0 [] (p ++ ([32, 43, 32] ++ TL.joinL [32, 43, 32] (q :: r))) = p :: q :: r
    rw [TL.spl_part (by simp) (pre_plus (hp p (List.mem_cons_self ..))), List.nil_append, spl_plus (by simp) fun z hz => hp z (List.mem_cons_of_mem _ hz)]
def PI (lo hi : Int) : V → Prop := fun v => ∃ c : Int, v = .int c ∧ lo ≤ c ∧ c ≤ hi
theorem ew_i {σ : L2.St} {H : Hp} {te : TE} {a : Addr} {c lo hi : Int} (h : Ev te σ (hid a H) (.int c)) (h0 : lo ≤ c) (h1 : c ≤ hi) : EvW a 0 te σ H (PI lo hi) := ew_pure h ⟨c, rfl, h0, h1⟩
theorem ewx_nil {σ : L2.St} {H : Hp} {a : Addr} {P : V → Prop} : EvWA a 0 tNil σ H (fun vs => vs.length = 0 ∧ ∀ v ∈ vs, P v) := fun n H1 b w l Q q => q [] H1 (But.refl a H1) w ⟨rfl, fun _ h => nomatch h⟩
theorem ewx_cons {σ : L2.St} {H : Hp} {a : Addr} {P : V → Prop} {d1 d2 n : Nat} {te : TE} {tr : TA} (h : EvW a d1 te σ H P) (hr : EvWA a d2 tr σ H (fun vs => vs.length = n ∧ ∀ v ∈ vs, P v)) : EvWA a (d1 + d2) (tCons te tr) σ H (fun vs => vs.length = n + 1 ∧ ∀ v ∈ vs, P v) :=
  ewa_mono (ewa_cons h hr) fun vs ⟨x, xs, e, px, l, hx⟩ => by
    subst e
    refine ⟨by rw [List.length_cons, l], fun v hv => ?_⟩
    rcases List.mem_cons.mp hv with rfl | hv
    · exact px
    · exact hx v hv
theorem ew_pi {K : PySem.W.Frag} {σ : L2.St} {H : Hp} {a : Addr} {i : Nat} {E : XK} {te : TE} {m lo hi : Int} (hσ : σ[i]? = some (some (.ref a))) (h : Ev te σ (hid a H) (.int m)) (h0 : 0 < m) (h1 : m < 2 ^ 250) (l : 0 ≤ lo) (u : m ≤ hi + 1) (z : lo = 0) : EvW a 1 (tCall (sp_dr K) [] E (tCons (tVar i) (tCons te tNil))) σ H (PI lo hi) :=
  (ew_drawC hσ h h0 (lt8000 h1)).mono fun v ⟨r, e, r0, r1⟩ => ⟨r, e, by omega, by omega⟩
theorem ew_pisub {σ : L2.St} {H : Hp} {a : Addr} {ta tb : TE} {d : Nat} {lo hi lo' hi' k : Int} (h : EvW a d ta σ H (PI lo hi)) (h' : Ev tb σ (hid a H) (.int k)) (l : lo' ≤ lo - k) (u : hi - k ≤ hi') : EvW a (d + 0) (tOp (rI0 fun i j => .int (i - j)) ta tb) σ H (PI lo' hi') :=
  ew_op (P2 := fun v => v = .int k) h (ew_pure h' rfl) fun x y ⟨r, e, r0, r1⟩ e2 => ⟨.int (r - k), fun H => by subst e e2; exact rv_I0, _, rfl, by omega, by omega⟩
theorem ew_piadd {σ : L2.St} {H : Hp} {a : Addr} {ta tb : TE} {d : Nat} {lo hi lo' hi' k : Int} (h' : Ev ta σ (hid a H) (.int k)) (h : EvW a d tb σ H (PI lo hi)) (l : lo' ≤ k + lo) (u : k + hi ≤ hi') : EvW a (0 + d) (tOp (rI0 fun i j => .int (i + j)) ta tb) σ H (PI lo' hi') :=
  ew_op (P1 := fun v => v = .int k) (ew_pure h' rfl) h fun x y e2 ⟨r, e, r0, r1⟩ => ⟨.int (k + r), fun H => by subst e e2; exact rv_I0, _, rfl, by omega, by omega⟩
theorem given_map (ns : List Int) (f : Int → V) : given ns.length (fun _ => true) (fun i => f (ns.getD i 0)) = ns.map f := by
  rw [given_all]
  refine List.ext_getElem (by simp) fun i h1 h2 => ?_
  simp at h1
  simp [List.getD_eq_getElem?_getD, h1]
def RtOk (ns : List Int) : Prop := ns ≠ [] ∧ ns.length ≤ 4000 ∧ ∀ n ∈ ns, n.natAbs < 2 ^ 1900 ∧ (numT n).length ≤ 640
theorem RtOk.pos {ns : List Int} (h : RtOk ns) : 0 < ns.length := List.length_pos_iff.mpr h.1
theorem RtOk.sum {ns : List Int} (h : RtOk ns) : ((ns.map fun n => S (numT n)).map (·.length)).sum ≤ ns.length * 640 := by
  have e := PySem.StrLaws.sumLen_le (B := 640) (ns.map fun n => S (numT n)) fun y hy => by
    obtain ⟨n, hn, rfl⟩ := List.mem_map.mp hy
    rw [S_len]
    exact (h.2.2 n hn).2
  rw [List.length_map] at e
  exact e
theorem RtOk.fits {ns : List Int} (h : RtOk ns) : ((ns.map fun n => S (numT n)).map (·.length)).sum + (ns.map fun n => S (numT n)).length * (S [44, 32]).length ≤ 16777216 := by
  have e := h.sum
  have h1 := h.2.1
  rw [List.length_map, S_len]
  show _ + ns.length * 2 ≤ _
  omega
theorem RtOk.len {ns : List Int} (h : RtOk ns) : (rowT ns).length + 2 ≤ sizeLine := by
  have e := joinL_len [44, 32] (ns.map numT)
  have e2 := h.sum
  rw [List.map_map] at e2
  have e3 : ((ns.map numT).map (·.length)).sum = (ns.map ((·.length) ∘ fun n => S (numT n))).sum := by
    rw [List.map_map]
    congr 1
  rw [e3, List.length_map] at e
  have h1 := h.2.1
  have e4 : ([44, 32] : List Nat).length = 2 := rfl
  rw [e4] at e
  unfold rowT
  show _ ≤ 2 ^ 24
  omega
def NumOk (z : Int) : Prop := -(10 ^ 60) ≤ z ∧ z ≤ 10 ^ 60
theorem p59 : (10 : Int) ^ Int.toNat 59 = 100000000000000000000000000000000000000000000000000000000000 := by decide
theorem p60 : (10 : Int) ^ 60 = 1000000000000000000000000000000000000000000000000000000000000 := by decide
theorem p60' : (10 : Int) ^ Int.toNat 60 = 1000000000000000000000000000000000000000000000000000000000000 := by decide
theorem mul_lt9 {x y : Int} (hx0 : 0 ≤ x) (hx : x < 10 ^ Int.toNat 9) (hy0 : 0 ≤ y) (hy : y < 10 ^ Int.toNat 9) : 0 ≤ x * y ∧ x * y ≤ 1000000000000000000 := by
  have e : (10 : Int) ^ Int.toNat 9 = 1000000000 := by decide
  rw [e] at hx hy
  refine ⟨Int.mul_nonneg hx0 hy0, ?_⟩
  have := Int.mul_le_mul (show x ≤ 1000000000 by omega) (show y ≤ 1000000000 by omega) hy0 (by decide)
  omega
theorem num_ok {z : Int} (h : NumOk z) : z.natAbs < 2 ^ 1900 ∧ (numT z).length ≤ 640 := by
  unfold NumOk at h
  rw [p60] at h
  have e : (2 : Nat) ^ 240 = 1766847064778384329583297500742918515827483896875618958121606201292619776 := by decide
  have hz : z.natAbs < 2 ^ 240 := by
    rw [e]
    omega
  refine ⟨Nat.lt_of_lt_of_le hz (Nat.pow_le_pow_right (by decide) (by decide)), ?_⟩
  have e61 : (10 : Int) ^ 61 = 10000000000000000000000000000000000000000000000000000000000000 := by decide
  have h0 : -(10 ^ 61) < z := by
    rw [e61]
    omega
  have h1 : z < 10 ^ 61 := by
    rw [e61]
    omega
  have := numT_len (n := z) (k := 61) (by decide) h0 h1
  omega
theorem rt_ok {ns : List Int} (h0 : 0 < ns.length) (h1 : ns.length ≤ 300) (h : ∀ z ∈ ns, NumOk z) : RtOk ns := ⟨List.length_pos_iff.mp h0, by omega, fun n hn => num_ok (h n hn)⟩
theorem num_wide {ns : List Int} (h : ∀ z ∈ ns, NumOk z) : wide 1900 ns := fun n hn => by
  have := h n hn
  unfold NumOk at this
  rw [p60] at this
  have e : (2 : Nat) ^ 240 = 1766847064778384329583297500742918515827483896875618958121606201292619776 := by decide
  have hz : n.natAbs < 2 ^ 240 := by
    rw [e]
    omega
  exact Nat.lt_of_lt_of_le (PySem.Flt.log2_lt_of (k := 240) (by decide) hz) (by decide)
theorem cut_one {ns : List Int} {j : Nat} {x : Int} (h : ns[j]? = some x) : cutV (vi ns) (some (j : Int)) (some ((j : Int) + 1)) = vi [x] := by
  have hj := (List.getElem?_eq_some_iff.mp h).1
  have hx := (List.getElem?_eq_some_iff.mp h).2
  unfold cutV
  rw [show (j : Int) + 1 = ((j + 1 : Nat) : Int) from rfl, HT.sIx_nat, HT.sIx_nat, List.length_map, Nat.min_eq_left (by omega), Nat.min_eq_left (by omega), show j + 1 - j = 1 by omega, ← List.map_drop, ← List.map_take, List.drop_eq_getElem_cons hj, hx]
  rfl
theorem num_len {z : Int} (h : NumOk z) : (numT z).length ≤ 62 := by
  unfold NumOk at h
  rw [p60] at h
  have e61 : (10 : Int) ^ 61 = 10000000000000000000000000000000000000000000000000000000000000 := by decide
  have h0 : -(10 ^ 61) < z := by
    rw [e61]
    omega
  have h1 : z < 10 ^ 61 := by
    rw [e61]
    omega
  exact numT_len (n := z) (k := 61) (by decide) h0 h1
end Bk
namespace Bk
open PySem PySem.Spec PyProof.Rows L2 Evl SX
/-! ### an integer, or a value of another kind -/
def NV (H : Hp) (v : V) (o : Option Int) : Prop := match o with | some m => v = .int m | none => OddV H v
theorem NV.ex {H H' : Hp} {v : V} {o : Option Int} (h : NV H v o) (e : Ex H H') : NV H' v o := by
  cases o with
  | none => exact OddV.ex h e
  | some m => exact h
def inZ (o : Option Int) (lo hi : Int) : Bool := match o with | some m => decide (lo ≤ m) && decide (m ≤ hi) | none => false
theorem nv_opt {H : Hp} (o : Option Int) : NV H (optI o) o := by
  cases o with
  | none => exact .inl rfl
  | some m => rfl
/-! ### words of lists -/
def rInsert : V → List V → Hp → VK → Prop := fun x vs H Q => ∃ (l : Addr) (xs : List V) (i : Int) (y : V), x = .ref l ∧ vs = [.int i, y] ∧ H l = some (.lst xs) ∧ xs.length < sizeLine ∧ 0 ≤ i ∧ i < 2 ^ 63 ∧ Q .non (upd H l (.lst (xs.take i.toNat ++ [y] ++ xs.drop i.toNat)))
theorem mt_insertR {X : Cx} : MtR X "list.insert" rInsert := mt_insert
section
variable {K : PySem.W.Frag} {σ : L2.St} {H : Hp} {ta tb te : TE} {D : Ends} {tz : TS}
theorem s_insert {l : Addr} {xs : List V} {i : Nat} {y : V} (hl : H l = some (.lst xs)) (h : Ev ta σ H (.ref l)) (h1 : Ev tb σ H (.int (i : Int))) (h2 : Ev te σ H y) (hz : xs.length < 100000) (hi : i ≤ 100000) (k : ∀ H1, Ex H H1 → D.nx σ (upd H1 l (.lst (xs.take i ++ [y] ++ xs.drop i)))) : tDrop (tBM K "list" rInsert ta (tCons tb (tCons te tNil))) D σ H :=
  h H (Ex.refl H) _ fun H1 e1 => ⟨.inl ⟨rfl, xs, sq_of (e1 _ _ hl)⟩, h1 H1 e1 _ fun H2 e2 => h2 H2 (e1.trans e2) _ fun H3 e3 => ⟨l, xs, (i : Int), y, rfl, rfl, ((e1.trans e2).trans e3) _ _ hl, sz_lt hz, by omega, by omega, by rw [Int.toNat_natCast]; exact k H3 ((e1.trans e2).trans e3)⟩⟩
theorem s_popAt {l : Addr} {xs : List V} {i : Nat} (hl : H l = some (.lst xs)) (h : Ev ta σ H (.ref l)) (h1 : Ev tb σ H (.int (i : Int))) (hi : i < xs.length) (hz : xs.length ≤ 100000) (k : ∀ H1, Ex H H1 → D.nx σ (upd H1 l (.lst (xs.eraseIdx i)))) : tDrop (tBM K "list" rPopAt ta (tCons tb tNil)) D σ H :=
  h H (Ex.refl H) _ fun H1 e1 => ⟨.inl ⟨rfl, xs, sq_of (e1 _ _ hl)⟩, h1 H1 e1 _ fun H2 e2 => ⟨l, xs, (i : Int), i, xs[i], rfl, rfl, (e1.trans e2) _ _ hl, by omega, by omega, by
    obtain ⟨j, e, ej, _⟩ := atI_get (atI_nat (List.getElem?_eq_getElem hi))
    have e2 : seqIndex? (i : Int) xs.length = some i := by
      unfold seqIndex?
      simp only []
      rw [if_neg (show ¬ (i : Int) < 0 by omega), if_pos (by simp; omega), Int.toNat_natCast]
    exact e2, List.getElem?_eq_getElem hi, k H2 (e1.trans e2)⟩⟩
end
theorem cutV_both (xs : List V) (j k : Nat) : cutV xs (some (j : Int)) (some (k : Int)) = (xs.drop j).take (k - j) := by
  unfold cutV
  rw [HT.sIx_nat, HT.sIx_nat]
  by_cases h : j ≤ xs.length
  · rw [Nat.min_eq_left h]
    by_cases h2 : k ≤ xs.length
    · rw [Nat.min_eq_left h2]
    · rw [Nat.min_eq_right (show xs.length ≤ k by omega), List.take_of_length_le (by rw [List.length_drop]; omega), List.take_of_length_le (by rw [List.length_drop]; omega)]
  · rw [Nat.min_eq_right (show xs.length ≤ j by omega), List.drop_length, List.take_nil, List.drop_eq_nil_of_le (by omega), List.take_nil]
/-! ### split, of any text -/
def prts (sep l : List Nat) : List (List Nat) := TL.spl sep 0 [] l
theorem prts_S {sep l : List Nat} (h : sep ≠ []) (hk : (sep.all (· < 256)) = true) : Txt.split (S l) (S sep) = (prts sep l).map S := split_S h hk
theorem prts_join {sep l : List Nat} (h : sep ≠ []) (hk : (sep.all (· < 256)) = true) : TL.joinL sep (prts sep l) = l := by
  have e := PySem.StrLaws.join_split (S l) (S sep)
  rw [prts_S h hk] at e
  have e2 := congrArg TL.tl e
  rw [TL.tl_join, List.map_map] at e2
  have e3 : (prts sep l).map (TL.tl ∘ S) = prts sep l := by
    rw [show (TL.tl ∘ S) = id from rfl, List.map_id]
  rw [e3] at e2
  exact e2
theorem joinL_sub (sep : List Nat) : ∀ {ps : List (List Nat)} {p : List Nat}, p ∈ ps → ∀ c ∈ p, c ∈ TL.joinL sep ps
  | [], p, h, c, hc => by cases h
  | [q], p, h, c, hc => by
    rw [List.mem_singleton.mp h] at hc
    exact hc
  | q :: r :: s, p, h, c, hc => by
    show c ∈ q ++ (sep ++ TL.joinL sep (r :: s))
    rcases List.mem_cons.mp h with rfl | h
    · exact List.mem_append_left _ hc
    · exact List.mem_append_right _ (List.mem_append_right _ (joinL_sub sep h c hc))
theorem prts_mem {sep l p : List Nat} (h : sep ≠ []) (hk : (sep.all (· < 256)) = true) (hp : p ∈ prts sep l) {c : Nat} (hc : c ∈ p) : c ∈ l := by
  have := joinL_sub sep hp c hc
  rwa [prts_join h hk] at this
theorem joinL_part (sep : List Nat) : ∀ {ps : List (List Nat)} {p : List Nat}, p ∈ ps → p.length ≤ (TL.joinL sep ps).length
  | [], p, h => by cases h
  | [q], p, h => by
    rw [List.mem_singleton.mp h]
    exact Nat.le_refl _
  | q :: r :: s, p, h => by
    show p.length ≤ (q ++ (sep ++ TL.joinL sep (r :: s))).length
    rw [List.length_append, List.length_append]
    rcases List.mem_cons.mp h with rfl | h
    · omega
    · have := joinL_part sep h
      omega
theorem prts_len {sep l p : List Nat} (h : sep ≠ []) (hk : (sep.all (· < 256)) = true) (hp : p ∈ prts sep l) : p.length ≤ l.length := by
  have := joinL_part sep hp
  rwa [prts_join h hk] at this
theorem spl_some (sep : List Nat) : ∀ (l : List Nat) (k : Nat) (acc : List Nat), TL.spl sep k acc l ≠ []
  | [], k, acc => by
    rw [TL.spl_nil]
    simp
  | c :: r, 0, acc => by
    show (if TL.pre sep (c :: r) = true then acc :: TL.spl sep (sep.length - 1) [] r else TL.spl sep 0 (acc ++ [c]) r) ≠ []
    split
    · simp
    · exact spl_some sep r 0 _
  | c :: r, k + 1, acc => by
    show TL.spl sep k acc r ≠ []
    exact spl_some sep r k acc
theorem prts_ne (sep l : List Nat) : prts sep l ≠ [] := spl_some sep l 0 []
theorem prts_pos (sep l : List Nat) : 0 < (prts sep l).length := List.length_pos_iff.mpr (prts_ne sep l)
theorem joinL_count (sep : List Nat) (h : 0 < sep.length) : ∀ ps : List (List Nat), ps.length ≤ (TL.joinL sep ps).length + 1
  | [] => Nat.zero_le _
  | [q] => by show 1 ≤ _; omega
  | q :: r :: s => by
    show (q :: r :: s).length ≤ (q ++ (sep ++ TL.joinL sep (r :: s))).length + 1
    have := joinL_count sep h (r :: s)
    rw [List.length_append, List.length_append, List.length_cons]
    omega
theorem prts_count {sep l : List Nat} (h : sep ≠ []) (hk : (sep.all (· < 256)) = true) : (prts sep l).length ≤ l.length + 1 := by
  have := joinL_count sep (List.length_pos_iff.mpr h) (prts sep l)
  rwa [prts_join h hk] at this
section
variable {K : PySem.W.Frag} {σ : L2.St} {H : Hp} {te ta tb : TE} {a : Addr} {d d1 d2 n : Nat} {D : Ends} {PA : List V → Prop} {P : V → Prop} {t u : TT} {tu tw tz : TS}
/-- xs[j] = a new tuple, drawn -/
theorem sw_setU {xs : List V} {l : Addr} {j : Nat} (hl : H l = some (.lst xs)) (nl : l ≠ a) (h : EvWU a d te σ H PA) (ho : ∀ H1, Ev ta σ H1 (.ref l)) (hi : ∀ H1, Ev tb σ H1 (.int (j : Int))) (hj : j < xs.length) (w : Well H a n) (hn : n + d ≤ 2 ^ 50)
    (k : ∀ p ys H1, H p = none → But a H H1 → Well H1 a (n + d) → H1 p = some (.tup ys) → PA ys → D.nx σ (upd H1 l (.lst (xs.set j (.ref p))))) : tAsg te (gSub ta tb rSetL) D σ H :=
  h n H (But.refl a H) w (by omega) _ fun p ys H1 hp b1 w1 g1 pv => ho H1 H1 (Ex.refl H1) _ fun H2 e2 => hi H2 H2 (Ex.refl H2) _ fun H3 e3 => by
    have e13 := e2.trans e3
    exact ⟨l, xs, (j : Int), j, rfl, rfl, e13 _ _ (b1 _ _ nl hl), ixN_nat (by omega), k p ys H3 hp (b1.trans (But.ex e13)) (w1.ex e13) (e13 _ _ g1) pv⟩
/-- if draw.. == c and test: .. -/
theorem sw_ifAnd {b : Bool} (h : EvW a d te σ H (fun v => ∃ b, v = .bl b)) (hb : ∀ H1, But a H H1 → EvT u σ H1 b) (w : Well H a n) (l : n + d ≤ 2 ^ 50) (k1 : b = true → ∀ H1, But a H H1 → Well H1 a (n + d) → tu D σ H1)
    (k2 : ∀ H1, But a H H1 → Well H1 a (n + d) → tw D σ H1) : tIfS (tAnd (tTest te) u) tu tw D σ H :=
  h n H (But.refl a H) w l _ fun v H2 b2 w2 ⟨c, e⟩ => ⟨c, e, by
    cases c with
    | true =>
      refine hb H2 b2 H2 (Ex.refl H2) _ fun H3 e3 => ?_
      cases b with
      | true => exact iteT (k1 rfl H3 (b2.trans (But.ex e3)) (w2.ex e3))
      | false => exact iteF (k2 H3 (b2.trans (But.ex e3)) (w2.ex e3))
    | false => exact iteF (k2 H2 b2 w2)⟩
end
end Bk
namespace Bk
open PySem PySem.Spec PyProof.Rows L2 Evl
/-! ### several except clauses, some of which keep the error by a name -/
def wKeptM (K : PySem.W.Frag) (Wout : WX) (D : Ends) : List (Value × Option Nat × TS) → WX
  | [] => Wout
  | (c, some i, ts) :: r => fun cls d σ H => ∃ b, PySem.W.exmOne K cls c = some b ∧ (b = true → ∀ a, H a = none → ts { nx := fun σ' H' => D.nx (σ'.set i none) H', rt := D.rt, bk := fun σ' H' => D.bk (σ'.set i none) H', ct := fun σ' H' => D.ct (σ'.set i none) H' } (σ.set i (some (.ref a))) (upd H a (ExK cls d a))) ∧
    (b = false → wKeptM K Wout D r cls d σ H)
  | (c, none, ts) :: r => fun cls d σ H => ∃ b, PySem.W.exmOne K cls c = some b ∧ (b = true → ts D σ H) ∧ (b = false → wKeptM K Wout D r cls d σ H)
inductive HdsK (X : Cx) : List ExceptHandler → List (Value × Option Nat × TS) → Prop
  | nil : HdsK X [] []
  | named {x n : Str} {c : Value} {i : Nat} {ts : TS} {b₀ : Stmt} {suite : List Stmt} {np pos' : Pos} {hds : List ExceptHandler} {l : List (Value × Option Nat × TS)} (hc : Names X x c) (hi : X.N[i]? = some n) (hln : X.env.kindOf n = some .local)
      (hsu : ∀ (a : Addr) (pn : List (Addr × Obj)), PSs (X.suite a pn) (b₀ :: suite) ts) (r : HdsK X hds l) :
      HdsK X (.ExceptHandler (some (.Name x np)) (some n) (b₀ :: suite) pos' :: hds) ((c, some i, ts) :: l)
  | bare {x : Str} {c : Value} {ts : TS} {b₀ : Stmt} {suite : List Stmt} {np pos' : Pos} {hds : List ExceptHandler} {l : List (Value × Option Nat × TS)} (hc : Names X x c)
      (hsu : ∀ (a : Addr) (pn : List (Addr × Obj)), PSs (X.suite a pn) (b₀ :: suite) ts) (r : HdsK X hds l) :
      HdsK X (.ExceptHandler (some (.Name x np)) none (b₀ :: suite) pos' :: hds) ((c, none, ts) :: l)
section
variable {X : Cx} {body : List Stmt} {h₀ : ExceptHandler} {hds : List ExceptHandler} {l : List (Value × Option Nat × TS)} {pos : Pos} {tb : WX → TS} {Wout : WX}
theorem ps_try_keptM (hs : X.stack = X.env :: X.outer) (hf : X.env.frame = some X.env.locals) (hex : X.ex = []) (hN : X.N.Nodup) (tk : Takes X Wout)
    (hb : ∀ (W : WX) (pn : List (Addr × Obj)) (xe : Value → Shared → Prop), Takes (X.tr pn xe) W → PassesOwn (model X.prog X.w) X.A X.env xe → PSs (X.tr pn xe) body (tb W))
    (hh : HdsK X (h₀ :: hds) l) : PS X (.Try body (h₀ :: hds) [] [] pos) (fun D σ H => tb (wKeptM X.K Wout D l) D σ H) := by
  refine ⟨fun pins s σ H D I h => ?_⟩
  have ok0 := I.ok
  have frm : X.A.frames = some (X.env :: X.outer) := by rw [ok0.frames, hs]
  refine wpAny_Try_except ?_
  have run := (hb (wKeptM X.K Wout D l) (X.pn ++ pins) (fun ev t1 => wpAny (model X.prog X.w) X.A (noteFrame ev X.env) (fun _ t2 => wpAny (model X.prog X.w) X.A (setFlight ev none) (fun _ t3 =>
    wpAny (model X.prog X.w) X.A (handleBy ev X.env (h₀ :: hds)) (SP X pins D) X.xe t3) X.xe t2) X.xe t1) (fun u t' air => ?_) PassesOwn.looking).run [] s σ H D (I.toTry _) h
  · refine wpAny_mono run (fun fl t1 hfl => ?_) (fun _ _ he => he)
    cases fl with
    | next =>
      obtain ⟨σ', H', J, q⟩ := hfl
      exact wpAny_execs_nil ⟨σ', H', J.ofTry ok0, q⟩
    | brk =>
      obtain ⟨σ', H', J, q⟩ := hfl
      exact ⟨σ', H', J.ofTry ok0, q⟩
    | cont =>
      obtain ⟨σ', H', J, q⟩ := hfl
      exact ⟨σ', H', J.ofTry ok0, q⟩
    | ret u =>
      obtain ⟨v, σ', H', J, r, q⟩ := hfl
      exact ⟨v, σ', H', J.ofTry ok0, r, q⟩
  · obtain ⟨a, B, sJ, pins', σ', H', cls, d, rfl, Jt, nb, up, sky, na, eos, bare, w⟩ := air
    have J : Inv X pins σ' H' sJ := Jt.ofTry ok0
    have skyE : Sky B (X.env :: X.outer) a (Zc cls d) X.env.locals t'.heap := by rw [← hs]; exact sky
    show wpAny (model X.prog X.w) X.A (noteFrame (.ref a) X.env) _ _ _
    refine Sky.land Zc.steady frm hf skyE fun g3 f3 u3 => ?_
    have J3 : Inv X pins σ' H' { t' with heap := g3 } := J.landed nb f3.1 (up.trans u3) eos bare
    obtain ⟨o3, v3, ho3, hz3, hd3⟩ := f3.there
    have notIn : ∀ {hh : Heap} {o : Obj} {vs : Array Value}, hh.FunFrames B (X.env :: X.outer) → hh.get? a = some o → o.data = .fields vs → a ∉ frs (X.env :: X.outer) := fun {hh o vs} ff e dd hm => by
      obtain ⟨_, o', e', nf⟩ := ff.mem hm
      rw [e] at e'
      cases e'
      exact nf _ dd
    have nfr := notIn f3.2.2.1 ho3 hd3
    have nL : a ≠ X.env.locals := fun z => nfr (List.mem_filterMap.mpr ⟨X.env, List.mem_cons_self, by rw [hf, z]⟩)
    have nJ : sJ.heap.get? a = none := by
      cases q : sJ.heap.get? a with
      | none => rfl
      | some o =>
        have r := nb a o q (by rw [show frs (X.tr (X.pn ++ pins) _).stack = frs (X.env :: X.outer) by rw [← hs]]; exact nfr)
        rw [f3.2.1] at r
        cases r
    have n0 : X.s_0.heap.get? a = none := by
      cases q : X.s_0.heap.get? a with
      | none => rfl
      | some o =>
        obtain ⟨o', r⟩ := J.base.there a o q (by rw [hex]; exact List.not_mem_nil)
        rw [nJ] at r
        cases r
    have nP : ∀ p ∈ X.pn ++ pins, p.1 ≠ a := fun p hp z => by
      have r := (J.pin p hp).1
      rw [z, nJ] at r
      cases r
    have lt : PySem.W.Looks (model X.prog X.w) g3 (typeOf (.ref a)) cls := fun A Q E s k q => wpAny_typeOf_ref (k _ _ ho3) (by rw [hz3.1]; exact q)
    have S3 := suite0 J3 a
    have asks : ∀ {x : Str} {c : Value} {np : Pos}, Names X x c → ∀ {Q : Value → Shared → Prop} {E : Value → Shared → Prop}, Q c { t' with heap := g3 } → wpAny (model X.prog X.w) (X.A.mark (some (.ref a))) (eval (.Name x np) X.env) Q E { t' with heap := g3 } := fun {x c np} hc {Q E} q => by
      obtain ⟨hg, hdbg, hm | ⟨hm, hv, hnn⟩⟩ := hc
      · exact ld_glob (X := X.suite a (X.pn ++ pins)) S3 hg hm q hdbg
      · exact ld_blt (X := X.suite a (X.pn ++ pins)) S3 hg hm hv q hnn hdbg
    have go : ∀ {hds' : List ExceptHandler} {l' : List (Value × Option Nat × TS)}, HdsK X hds' l' → wKeptM X.K Wout D l' cls d σ' H' →
        wpAny (model X.prog X.w) X.A (handleBy (.ref a) X.env hds') (SP X pins D) X.xe { t' with heap := g3 } := by
      intro hds' l' hk
      induction hk with
      | nil =>
        intro w
        refine wpAny_handleBy_nil ?_
        obtain ⟨y1, y2, y3, oe, vs, T, oT, ts', he, hz, hd, h1, hr⟩ := id f3
        unfold PySem.passOn
        refine wpAny_bind (wpAny_field he hd h1 ?_)
        rw [if_neg (show ¬ ((Value.ref T == Value.none) = true) from by simp)]
        have onward : wpAny (model X.prog X.w) X.A (setFlight (.ref a) X.env.frame) (fun _ s4 => wpAny (model X.prog X.w) X.A (throw (.ref a) : Sem Flow) (SP X pins D) X.xe s4) X.xe { t' with heap := g3 } := by
          rw [hf]
          refine HandSPX.setFlight_upZ f3 fun g4 hh4 u4 => wpAny_throw (tk _ _ ?_)
          exact ⟨a, B, sJ, pins, σ', H', cls, d, rfl, J, nb, (up.trans u3).trans u4, .inr (.inr (by rw [hs]; exact hh4)), na, eos, bare, w⟩
        first
          | exact wpAny_bind (wpAny_pure (wpAny_bind onward))
          | exact wpAny_bind onward
      | @named x n c i ts b₀ suite np pos' hds2 l2 hc hi hln hsu r ih =>
        intro w
        obtain ⟨b, hb1, hyes, hno⟩ := w
        have isLoc : Loc X.env.scope n := .inl hln
        refine wpAny_handleBy_cons (codeAny_handlers_test ?_) (by intro q; cases q)
        have lm := PySem.W.exm_one (M := model X.prog X.w) (J3.kIn) lt hb1
        refine asks hc (lm.here ?_)
        cases b with
        | true =>
          refine codeAny_handlers_suite_as ?_
          refine HandSPX.lands_againZ f3 fun g4 f4 u4 => ?_
          have J4 : Inv X pins σ' H' { t' with heap := g4 } := J.landed nb f4.1 ((up.trans u3).trans u4) eos bare
          obtain ⟨o4, v4, ho4, hz4, hd4⟩ := f4.there
          have S4 := suite0 (adopt J4 ho4 hz4 hd4 na n0 nL nP) a
          refine store_ok (X := X.suite a (X.pn ++ pins)) (v := .ref a) S4 hN hi isLoc rfl (fun s5 S5 => ?_) (.inr hln)
          refine wpAny_mono ((hsu a (X.pn ++ pins)).run [] s5 _ _ _ S5 (hyes rfl a na)) (fun fl s6 hfl => ?_) (fun _ _ z => False.elim z)
          have away : ∀ {σ6 : L2.St} {H6 : Hp} {Q : Shared → Prop}, Inv (X.suite a (X.pn ++ pins)) [] σ6 H6 s6 → (∀ s7, Inv X pins (σ6.set i none) H6 s7 → Q s7) →
              wpAny (model X.prog X.w) X.A (do bindName X.env n .none; unbindBehindTheSuite X.env n pos') (fun _ s7 => Q s7) X.xe s6 := fun {σ6 H6 Q} S6 hq => gone_ok (unsuite0 S6 ok0) hN hi hln hq
          cases fl with
          | next =>
            obtain ⟨σ6, H6, S6, q6⟩ := hfl
            exact away S6 fun s7 J7 => ⟨_, _, J7, q6⟩
          | brk =>
            obtain ⟨σ6, H6, S6, q6⟩ := hfl
            exact away S6 fun s7 J7 => ⟨_, _, J7, q6⟩
          | cont =>
            obtain ⟨σ6, H6, S6, q6⟩ := hfl
            exact away S6 fun s7 J7 => ⟨_, _, J7, q6⟩
          | ret u =>
            obtain ⟨v6, σ6, H6, S6, r6, q6⟩ := hfl
            exact away S6 fun s7 J7 => ⟨_, _, _, J7, r6, q6⟩
        | false =>
          show wpAny _ X.A (handleBy (.ref a) X.env hds2) _ _ _
          exact ih (hno rfl)
      | @bare x c ts b₀ suite np pos' hds2 l2 hc hsu r ih =>
        intro w
        obtain ⟨b, hb1, hyes, hno⟩ := w
        refine wpAny_handleBy_cons (codeAny_handlers_test ?_) (by intro q; cases q)
        have lm := PySem.W.exm_one (M := model X.prog X.w) (J3.kIn) lt hb1
        refine asks hc (lm.here ?_)
        cases b with
        | true =>
          refine codeAny_handlers_suite ?_
          refine HandSPX.lands_againZ f3 fun g4 f4 u4 => ?_
          have J4 : Inv X pins σ' H' { t' with heap := g4 } := J.landed nb f4.1 ((up.trans u3).trans u4) eos bare
          have S4 := suite0 J4 a
          refine wpAny_mono ((hsu a (X.pn ++ pins)).run [] _ _ H' _ S4 (hyes rfl)) (fun f s6 hsp => ?_) (fun _ _ z => False.elim z)
          cases f with
          | next =>
            obtain ⟨σ6, H6, S6, q6⟩ := hsp
            exact ⟨_, _, unsuite0 S6 ok0, q6⟩
          | brk =>
            obtain ⟨σ6, H6, S6, q6⟩ := hsp
            exact ⟨_, _, unsuite0 S6 ok0, q6⟩
          | cont =>
            obtain ⟨σ6, H6, S6, q6⟩ := hsp
            exact ⟨_, _, unsuite0 S6 ok0, q6⟩
          | ret u =>
            obtain ⟨v6, σ6, H6, S6, r6, q6⟩ := hsp
            exact ⟨_, _, _, unsuite0 S6 ok0, r6, q6⟩
        | false =>
          show wpAny _ X.A (handleBy (.ref a) X.env hds2) _ _ _
          exact ih (hno rfl)
    exact go hh w
end
end Bk
namespace Bk
open PySem PySem.Spec PyProof.Rows L2 Evl SX
/-! ### values without a text; new tuples of any values; lists of truths compared; parts of texts -/
def NotS (H : Hp) (x : V) : Prop := x = .non ∨ (∃ m, x = .int m) ∨ (∃ c, x = .bl c) ∨ (∃ a xs, x = .ref a ∧ H a = some (.lst xs)) ∨ (∃ a xs, x = .ref a ∧ H a = some (.tup xs)) ∨ (∃ a kvs, x = .ref a ∧ H a = some (.dK kvs))
theorem NotS.ex {H H' : Hp} {x : V} (h : NotS H x) (e : Ex H H') : NotS H' x := by
  rcases h with h | h | h | ⟨a, xs, h, g⟩ | ⟨a, xs, h, g⟩ | ⟨a, xs, h, g⟩
  · exact .inl h
  · exact .inr (.inl h)
  · exact .inr (.inr (.inl h))
  · exact .inr (.inr (.inr (.inl ⟨a, xs, h, e _ _ g⟩)))
  · exact .inr (.inr (.inr (.inr (.inl ⟨a, xs, h, e _ _ g⟩))))
  · exact .inr (.inr (.inr (.inr (.inr ⟨a, xs, h, e _ _ g⟩))))
theorem kb_int_str' : kitB "int" "str" = some false := by decide +kernel
theorem kb_none_str' : kitB "NoneType" "str" = some false := by decide +kernel
theorem kb_bool_str' : kitB "bool" "str" = some false := by decide +kernel
theorem kb_list_str' : kitB "list" "str" = some false := by decide +kernel
theorem kb_tuple_str' : kitB "tuple" "str" = some false := by decide +kernel
theorem kb_dict_str' : kitB "dict" "str" = some false := by decide +kernel
section
variable {K : PySem.W.Frag} {σ : L2.St} {H : Hp} {ta tb te tl : TE} {t : TA} {D : Ends} {tu tz : TS} {P : V → Hp → Prop} {PL : List V → Hp → Prop} {n : Nat}
theorem ev_notS {x : V} (h : Ev ta σ H x) (o : NotS H x) : Ev (tCB (rIsi K) (tCons ta (tCons (tC (.ty "str")) tNil))) σ H (.bl false) := by
  rcases o with rfl | ⟨m, rfl⟩ | ⟨c, rfl⟩ | ⟨a, xs, rfl, g⟩ | ⟨a, xs, rfl, g⟩ | ⟨a, kvs, rfl, g⟩
  · exact ev_isi h (fun _ _ => .base .non) kb_none_str'
  · exact ev_isi h (fun _ _ => .base (.int m)) kb_int_str'
  · exact ev_isi h (fun _ _ => .base (.bl c)) kb_bool_str'
  · exact ev_isi h (fun _ e => .base (.lst (e _ _ g))) kb_list_str'
  · exact ev_isi h (fun _ e => .base (.tup (e _ _ g))) kb_tuple_str'
  · exact ev_isi h (fun _ e => .base (.dK (e _ _ g))) kb_dict_str'
def EvUP (te : TE) (σ : L2.St) (H : Hp) (P : List V → Hp → Prop) : Prop := ∀ H1, Ex H H1 → ∀ Q : VK, (∀ p xs H2, H1 p = none → Ex H1 H2 → H2 p = some (.tup xs) → P xs H2 → Q (.ref p) H2) → te σ H1 Q
theorem eup_tup (mono : ∀ v H1 H2, Ex H1 H2 → P v H1 → P v H2) (h : EvAP t σ H (AllP P n)) (hn : n ≤ 100000) : EvUP (tTup t) σ H (AllP P n) := fun H1 e Q q =>
  h H1 e _ fun xs H2 e2 ⟨l, px⟩ => ⟨sz_of (by omega), fun p hp => q p xs _ (fresh_back e2 hp) (e2.trans (Ex.new hp)) upd_same ⟨l, fun v hv => mono _ _ _ (Ex.new hp) (px v hv)⟩⟩
theorem q_forUP {j : Nat} (h : EvUP tl σ H PL) (Pv : Addr → List V → Nat → L2.St → Hp → Prop) (h0 : ∀ p xs H1, H p = none → Ex H H1 → H1 p = some (.tup xs) → PL xs H1 → Pv p xs 0 σ H1)
    (hl : ∀ p xs i σ' H', i ≤ xs.length → Pv p xs i σ' H' → SqT K H' p xs)
    (hs : ∀ p xs i x σ' H', xs[i]? = some x → Pv p xs i σ' H' → tu { D with nx := Pv p xs (i + 1), ct := Pv p xs (i + 1), bk := tz D } (σ'.set j (some x)) H') (hd : ∀ p xs σ' H', Pv p xs xs.length σ' H' → tz D σ' H') : tSeq (tFor (iTup K tl) (gName j) tu) tz D σ H :=
  h H (Ex.refl H) _ fun p xs H1 hp e h1 px => ⟨p, rfl, ⟨xs, st_of h1⟩, for_tup (D := { D with nx := tz D }) (Pv p xs) (h0 p xs H1 hp e h1 px) (hl p xs) (fun i x σ' H' hx k => hs p xs i x σ' H' hx k) (hd p xs)⟩
theorem ev_cVL {sp : Sp} {E : XK} {x v : V} {xs : List V} (h1 : Ev ta σ H x) (h2 : EvL tb σ H xs) (hs : ∀ p H1, Ex H H1 → H1 p = some (.lst xs) → SpV sp [x, .ref p] H1 v) : Ev (tCall sp [] E (tCons ta (tCons tb tNil))) σ H v := fun H1 e Q q =>
  h1 H1 e _ fun H2 e2 => h2 H2 (e.trans e2) _ fun p H3 hp e3 g3 => hs p H3 ((e.trans e2).trans e3) g3 H3 (Ex.refl H3) Q (fun H4 e4 => q H4 ((e2.trans e3).trans e4)) E
theorem eu_slT {tl th : TO} {a : Addr} {xs : List V} {lo hi : Option Int} (h : Ev te σ H (.ref a)) (h1 : EvO tl σ H lo) (h2 : EvO th σ H hi) (hs : SqT K H a xs) (hw : ¬ (HT.sIx xs.length 0 lo = 0 ∧ HT.sIx xs.length xs.length hi = xs.length)) : EvU (tSl (rSlT K) te tl th) σ H (cutV xs lo hi) := fun H1 e _ q =>
  h H1 e _ fun H2 e2 => h1 H2 (e.trans e2) _ fun H3 e3 => h2 H3 ((e.trans e2).trans e3) _ fun H4 e4 =>
    ⟨a, xs, rfl, ex_t (((e.trans e2).trans e3).trans e4) hs, hw, fun p hp => q p _ (fresh_back ((e2.trans e3).trans e4) hp) (((e2.trans e3).trans e4).trans (Ex.new hp)) upd_same⟩
theorem el_repV {xs : List V} {n : Int} {p : Addr} (ha : Ev ta σ H (.ref p)) (g : H p = some (.lst xs)) (hb : ∀ H1, Ex H H1 → Ev tb σ H1 (.int n)) (h0 : 0 ≤ n) (hz : xs.length * n.toNat ≤ 100000) (hn : n ≤ 100000) : EvL (tOp rRep ta tb) σ H (List.replicate n.toNat xs).flatten := fun H1 e Q q =>
  ha H1 e _ fun H2 e2 => hb H2 (e.trans e2) H2 (Ex.refl H2) _ fun H3 e3 => ⟨p, n, xs, rfl, rfl, ((e.trans e2).trans e3) _ _ g, by omega, by omega, sz_of hz, fun l hl => q l _ (fresh_back (e2.trans e3) hl) ((e2.trans e3).trans (Ex.new hl)) upd_same⟩
theorem ev_joinL {ps : List (List Nat)} {sep : List Nat} (h : Ev ta σ H (.str (S sep))) (h' : EvL tb σ H (ps.map fun l => V.str (S l))) (hz : (ps.map (·.length)).sum + ps.length * sep.length ≤ 16777216) : Ev (tM1 (rJoin K) ta tb) σ H (.str (S (TL.joinL sep ps))) := by
  refine ev_is (ev_joinN (ys := ps.map S) h (el_is h' (by rw [List.map_map]; rfl)) ?_) (congrArg V.str (join_S sep ps))
  rw [List.map_map, List.length_map, S_len]
  have e : ps.map ((·.length) ∘ S) = ps.map (·.length) := List.map_congr_left fun l _ => S_len l
  rw [e]
  exact hz
/-! lists of truths -/
def dbs (bs : List Bool) : List PyData := bs.map .bool
theorem dpAll_bls (K : PySem.W.Frag) (H : Hp) : ∀ bs : List Bool, DpAll K H (bs.map .bl) (dbs bs)
  | [] => .nil
  | b :: bs => .cons (.bl b) (dpAll_bls K H bs)
theorem bls_ok : ∀ bs : List Bool, PyData.canLayAll0 (dbs bs) = true ∧ PyData.depthAll (dbs bs) = 0
  | [] => ⟨rfl, rfl⟩
  | b :: bs => by
    obtain ⟨x, y⟩ := bls_ok bs
    constructor
    · show PyData.canLayAll0 (.bool b :: dbs bs) = true
      rw [PyData.canLayAll0, PyData.canLay0, x]
      rfl
    · show PyData.depthAll (.bool b :: dbs bs) = 0
      rw [PyData.depthAll, PyData.depth, y]
      rfl
theorem bls_sh (bs : List Bool) : SeqAt.shaped (.list (dbs bs)) = true := by
  unfold SeqAt.shaped
  rw [PyData.canLay0, PyData.depth, (bls_ok bs).1, (bls_ok bs).2]
  rfl
theorem bls_eqv : ∀ bs : List Bool, PyData.eqvAll (dbs bs) (dbs bs) = true
  | [] => rfl
  | b :: bs => by
    show PyData.eqvAll (.bool b :: dbs bs) (.bool b :: dbs bs) = true
    rw [PyData.eqvAll, PyData.eqv, bls_eqv bs]
    simp
theorem ev_neBls {p : Addr} {bs : List Bool} (ha : Ev ta σ H (.ref p)) (g : SqL K H p (bs.map .bl)) (hb : EvL tb σ H (bs.map .bl)) : Ev (tOp (rNeD K) ta tb) σ H (.bl false) := fun H1 e Q k =>
  ha H1 e _ fun H2 e2 => hb H2 (e.trans e2) _ fun q H3 _ e3 g3 => ⟨.list (dbs bs), .list (dbs bs), .lst (ex_l ((e.trans e2).trans e3) g) (dpAll_bls K H3 bs), .lst (sq_of g3) (dpAll_bls K H3 bs), bls_sh bs, bls_sh bs, by
    rw [PyData.eqv, bls_eqv]
    exact k H3 (e2.trans e3)⟩
end
/-! ### a def called with nothing -/
section
variable {X : Cx} {CX : CXT} {k : Nat} {f : Addr} {fd : FuncData} {ps : List Str} {sp : Sp} {E : XK} {x : Str} {p pos : Pos}
theorem callG0 (F : FnG X.prog X.w X.K X.mg X.base CX k f fd ps sp) (hr : Rm k X.A) (hg : Gl X x) (hm : X.mg x = some (.ref f)) (hk : PySem.W.keepIn X.K (.ref f) = true) (hb : Binds X.K fd ps []) (hx : Passes CX X E)
    (hdb : (x == ("__debug__" : Str)) = false := by decide) : PE X (.Call (.Name x p) [] [] pos) (tCall sp [] E tNil) := by
  refine ⟨fun pins s σ H Q I h => wpAny_Call_Name_kw (ld_glob I hg hm ?_ hdb)⟩
  refine PySem.W.callWith_K0 (first := []) I.kIn hk ?_
  exact runG (us := []) (vs := []) F hr hb .nil hx I .nil h
end
/-! ### joined parts, split -/
theorem free_no43 : ∀ {p : List Nat}, 43 ∉ p → free [32, 43, 32] p = true
  | [], _ => rfl
  | c :: r, h => by
    have hr : 43 ∉ r := fun m => h (List.mem_cons_of_mem _ m)
    have ih := free_no43 hr
    have e : TL.pre [32, 43, 32] (c :: (r ++ [32, 43, 32])) = false := by
      show ((c :: (r ++ [32, 43, 32])).take 3 == [32, 43, 32]) = false
      refine beq_eq_false_iff_ne.mpr fun z => ?_
      cases r with
      | nil => simp at z
      | cons d r =>
        simp only [List.cons_append, List.take_succ_cons, List.cons.injEq] at z
        exact hr (by rw [z.2.1]; exact List.mem_cons_self ..)
    show (!(TL.pre [32, 43, 32] (c :: (r ++ [32, 43, 32]))) && free [32, 43, 32] r) = true
    rw [e, ih]
    rfl
theorem free_last {sep p : List Nat} (h : free sep p = true) : ∀ i, i < p.length → TL.pre sep (p.drop i) = false := fun i hi => by
  have a := free_at h [] i hi
  rw [List.append_nil] at a
  cases e : TL.pre sep (p.drop i) with
  | false => rfl
  | true =>
    have e1 : (p.drop i).take sep.length = sep := eq_of_beq e
    have hl : sep.length ≤ (p.drop i).length := by
      have := congrArg List.length e1
      rw [List.length_take] at this
      omega
    rw [List.drop_append_of_le_length (by omega), pre_mono hl, e] at a
    cases a
theorem prts_free {sep : List Nat} (hs : sep ≠ []) : ∀ {ps : List (List Nat)}, ps ≠ [] → (∀ p ∈ ps, free sep p = true) → prts sep (TL.joinL sep ps) = ps
  | [], h, _ => absurd rfl h
  | [p], _, hp => by
    show TL.spl sep 0 [] p = [p]
    rw [TL.spl_last (free_last (hp p (List.mem_singleton.mpr rfl))), List.nil_append]
  | p :: q :: r, _, hp => by
    show TL.spl sep 0 [] (p ++ (sep ++ TL.joinL sep (q :: r))) = p :: q :: r
    rw [spl_free _ hs (hp p (List.mem_cons_self ..))]
    exact congrArg (p :: ·) (prts_free hs (by simp) fun z hz => hp z (List.mem_cons_of_mem _ hz))
end Bk
namespace Bk
open PySem PySem.Spec PyProof.Rows L2 Evl SX
/-! ### texts sign by sign; the numbers' texts back -/
def rNotInS : R2 := fun x y H Q => ∃ (c : Nat) (z : Str), x = .str ⟨#[c]⟩ ∧ y = .str z ∧ Q (.bl (!decide (c ∈ z.cps.toList))) H
theorem op_notInS {X : Cx} : OpR X (compareOp .NotIn) rNotInS := op_notIn_sign
theorem given_filterN {α : Type} (xs : List α) (d : α) (p : α → Bool) (g : α → V) : given xs.length (fun j => p (xs.getD j d)) (fun j => g (xs.getD j d)) = (xs.filter p).map g := by
  have e : xs = (List.range xs.length).map fun j => xs.getD j d := by
    refine List.ext_getElem? fun i => ?_
    rw [List.getElem?_map]
    by_cases hi : i < xs.length
    · rw [List.getElem?_range hi, List.getElem?_eq_getElem hi]
      show _ = some (xs.getD i d)
      rw [List.getD_eq_getElem?_getD, List.getElem?_eq_getElem hi]
      rfl
    · rw [List.getElem?_eq_none (by omega), List.getElem?_eq_none (by rw [List.length_range]; omega)]
      rfl
  have e2 : xs.filter p = ((List.range xs.length).filter fun j => p (xs.getD j d)).map fun j => xs.getD j d := by
    conv => lhs; rw [e]
    rw [List.filter_map]
    rfl
  unfold given
  rw [e2, List.map_map]
  rfl
theorem S_sign (c : Nat) : (⟨#[c]⟩ : Str) = S [c] := rfl
theorem S_size (l : List Nat) : (S l).cps.size = l.length := S_len l
theorem S_get {l : List Nat} {i c : Nat} (h : (S l).cps[i]? = some c) : l[i]? = some c := by
  rw [← Array.getElem?_toList] at h
  exact h
theorem mem_S {c : Nat} {l : List Nat} : decide (c ∈ (S l).cps.toList) = decide (c ∈ l) := rfl
section
variable {K : PySem.W.Frag} {σ : L2.St} {H : Hp} {ta tb tl te t : TE} {tt : TT}
/-- [sign for sign in text if ..] -/
theorem el_lcS {j : Nat} {ws : List Nat} {l : List Nat} (f : Nat → Bool) (h : Ev tl σ H (.str (S l))) (hz : l.length ≤ 40000) (hw : ∀ x, wipe ((wipe σ ws).set j (some x)) ws = wipe σ ws)
    (ht : ∀ (c : Nat) H1, Ex H H1 → c ∈ l → EvT tt ((wipe σ ws).set j (some (.str (S [c])))) H1 (f c)) (he : ∀ (c : Nat) H1, Ex H H1 → c ∈ l → f c = true → Ev te ((wipe σ ws).set j (some (.str (S [c])))) H1 (.str (S [c]))) :
    EvL (tLc (iStr tl) (gName j) tt te ws) σ H (vs ((l.filter f).map fun c => [c])) := by
  have e0 : vs ((l.filter f).map fun c => [c]) = given l.length (fun i => f (l.getD i 0)) (fun i => V.str (S [l.getD i 0])) := by
    rw [given_filterN l 0 f fun c => V.str (S [c])]
    unfold vs
    rw [List.map_map]
    rfl
  rw [e0]
  intro H0 e Q q
  refine h H0 e _ fun H1 e1 => ⟨S l, rfl, fun Dl hD => ?_⟩
  refine lc_it (walk_str (z := S l)) (Cw H1 (fun i => f (l.getD i 0)) (fun i => V.str (S [l.getD i 0])) Dl) ⟨hD, Ex.new hD, upd_same⟩ (fun _ _ _ _ => trivial) (fun i x H2 H3 hi p y => ?_) fun H' p => q Dl H' (fresh_back e1 (by rw [S_size] at p; exact p.1)) (e1.trans (by rw [S_size] at p; exact p.2.1)) (by rw [S_size] at p; exact p.2.2)
  obtain ⟨rfl, c, hc, rfl⟩ := y
  have hg := S_get hc
  have hm := List.mem_of_getElem? hg
  have hd : l.getD i 0 = c := by rw [List.getD_eq_getElem?_getD, hg]; rfl
  rw [S_size] at hi
  refine ⟨hw _, cw_turn p (by omega) ?_ ?_⟩
  · show EvT tt _ H1 (f (l.getD i 0))
    rw [hd]
    exact ht c H1 (e.trans e1) hm
  · intro hf
    have hf' : f (l.getD i 0) = true := hf
    rw [hd] at hf'
    show Ev te _ H1 (V.str (S [l.getD i 0]))
    rw [hd]
    exact he c H1 (e.trans e1) hm hf'
theorem ev_neTT {as bs : List (List Nat)} (ha : strsOk as) (hb : strsOk bs) (h1 : EvL ta σ H (vs as)) (h2 : EvL tb σ H (vs bs)) : Ev (tOp (rNeD K) ta tb) σ H (.bl (!decide (as = bs))) := fun H1 e Q k =>
  h1 H1 e _ fun p H2 _ e2 g2 => h2 H2 (e.trans e2) _ fun q H3 _ e3 g3 => ⟨.list (ds as), .list (ds bs), .lst (sq_of (e3 _ _ g2)) (dpAll_strs K H3 as), .lst (sq_of g3) (dpAll_strs K H3 bs), shaped_strs ha, shaped_strs hb, by
    rw [PyData.eqv, eqvAll_strs]
    exact k H3 (e2.trans e3)⟩
theorem ev_notInS {c : Nat} {l : List Nat} (h1 : Ev ta σ H (.str (S [c]))) (h2 : Ev tb σ H (.str (S l))) : Ev (tOp rNotInS ta tb) σ H (.bl (!decide (c ∈ l))) := fun H1 e Q k =>
  h1 H1 e _ fun H2 e2 => h2 H2 (e.trans e2) _ fun H3 e3 => ⟨c, S l, rfl, rfl, k H3 (e2.trans e3)⟩
theorem rv_ixTx {l : List Nat} {i : Int} {c : Nat} (hl : l.length ≤ 16000000) (h : atI l i = some c) : RV rIxS (.str (S l)) (.int i) H (.str (S [c])) := fun H1 e Q k => ⟨S l, i, c, rfl, rfl, by rw [S_len]; show _ ≤ 2 ^ 24; omega, h, k H1 (Ex.refl H1)⟩
end
/-! the numbers' texts back -/
theorem natT_inv {l : List Nat} {n : Nat} (h : natT l = some n) : TL.numL n = l := by
  unfold natT at h
  split at h
  · rename_i c
    obtain ⟨h1, h2, h3⟩ := c
    injection h with h
    subst h
    have ad : NumText.AllDigits l := fun c hc => by
      have := List.all_eq_true.mp h1 c hc
      unfold dg at this
      simp only [Bool.and_eq_true, decide_eq_true_eq] at this
      exact this
    obtain ⟨c, r, rfl⟩ : ∃ c r, l = c :: r := by
      cases l with
      | nil => exact absurd rfl h2
      | cons c r => exact ⟨c, r, rfl⟩
    have := NumText.toDigits_digitsVal r.length (c :: r) rfl ad (by
      by_cases hr : r = []
      · exact .inl (by rw [hr]; rfl)
      · refine .inr ⟨c, r, rfl, ?_⟩
        have a := ad c (List.mem_cons_self ..)
        by_cases h48 : c = 48
        · have := h3 (by rw [h48]; rfl)
          injection this with _ x
          exact absurd x hr
        · omega)
    unfold TL.numL
    rw [this, List.map_map]
    conv => rhs; rw [← List.map_id (c :: r)]
    refine List.map_congr_left fun x hx => ?_
    have a := ad x hx
    show (Char.ofNat x).toNat = x
    have : x = 48 ∨ x = 49 ∨ x = 50 ∨ x = 51 ∨ x = 52 ∨ x = 53 ∨ x = 54 ∨ x = 55 ∨ x = 56 ∨ x = 57 := by omega
    rcases this with h | h | h | h | h | h | h | h | h | h <;> subst h <;> rfl
  · cases h
theorem wholeT_inv {l : List Nat} {n : Int} (h : wholeT l = some n) : numT n = l := by
  unfold wholeT at h
  split at h
  · rename_i c
    cases hn : natT (l.drop 1) with
    | none =>
      rw [hn] at h
      cases h
    | some m =>
      rw [hn] at h
      replace h : (if m = 0 then none else some (-(m : Int))) = some n := h
      split at h
      · cases h
      · rename_i m0
        injection h with h
        subst h
        have := natT_inv hn
        unfold numT
        rw [if_pos (by omega), show (-(m : Int)).natAbs = m by omega, this]
        conv => rhs; rw [← List.take_append_drop 1 l, c]
        rfl
  · cases hn : natT l with
    | none =>
      rw [hn] at h
      cases h
    | some m =>
      rw [hn] at h
      replace h : some (m : Int) = some n := h
      injection h with h
      subst h
      unfold numT
      rw [if_neg (by omega), show ((m : Int)).natAbs = m by omega]
      exact natT_inv hn

section
variable {K : PySem.W.Frag} {σ : L2.St} {H : Hp} {ta tb tc tl te : TE} {tt : TT} {xs : List V} {D : Ends} {tz : TS} {a : Addr} {n d1 d2 d3 : Nat}
/-- a comprehension over a new list -/
theorem el_lcNw {j : Nat} {ws : List Nat} (f : Nat → Bool) (v : Nat → V) (h : EvL tl σ H xs) (hz : xs.length ≤ 40000) (hw : ∀ x, wipe ((wipe σ ws).set j (some x)) ws = wipe σ ws)
    (ht : ∀ (i : Nat) (x : V) H1, Ex H H1 → xs[i]? = some x → EvT tt ((wipe σ ws).set j (some x)) H1 (f i)) (he : ∀ (i : Nat) (x : V) H1, Ex H H1 → xs[i]? = some x → f i = true → Ev te ((wipe σ ws).set j (some x)) H1 (v i)) :
    EvL (tLc (iList K tl) (gName j) tt te ws) σ H (given xs.length f v) := fun H0 e Q q => h H0 e _ fun a H1 ha e1 h1 => ⟨a, rfl, ⟨xs, sq_of h1⟩, fun Dl hD =>
  lc_list (xs := xs) (Cw H1 f v Dl) ⟨hD, Ex.new hD, upd_same⟩ (fun i H' _ p => sq_of (p.2.1 _ _ h1)) (fun i x H' hi p => ⟨hw x, cw_turn p (by have := (List.getElem?_eq_some_iff.mp hi).1; omega) (ht i x H1 (e.trans e1) hi) (fun hf => he i x H1 (e.trans e1) hi hf)⟩)
    (fun H' p => q Dl H' (fresh_back e1 p.1) (e1.trans p.2.1) p.2.2)⟩
theorem ev_inP {p : Addr} {x : V} (ha : Ev ta σ H x) (hb : Ev tb σ H (.ref p)) (g : SqL K H p xs) (fx : flatV x = true) (fs : xs.all flatV = true) : Ev (tOp (rIn K false) ta tb) σ H (.bl (inV x xs)) := fun H1 e Q k =>
  ha H1 e _ fun H2 e2 => hb H2 (e.trans e2) _ fun H3 e3 => ⟨p, xs, rfl, .inl (ex_l ((e.trans e2).trans e3) g), fx, fs, k H3 (e2.trans e3)⟩
theorem ev_indexN {l : Addr} {j : Nat} {y : V} (ha : Ev ta σ H (.ref l)) (h : SqL K H l xs) (fs : xs.all flatV = true) (hb : Ev tb σ H y) (fy : flatV y = true) (hj : ∃ z, xs[j]? = some z ∧ eqV z y = true) (hn : ∀ m z, m < j → xs[m]? = some z → eqV z y = false) : Ev (tBM K "list" (rIndex K) ta (tCons tb tNil)) σ H (.int (j : Nat)) := fun H1 e Q q =>
  ha H1 e _ fun H2 e2 => ⟨Or.inl ⟨rfl, _, ex_l (e.trans e2) h⟩, hb H2 (e.trans e2) _ fun H3 e3 => by
    obtain ⟨z, h1, h2⟩ := hj
    exact ⟨l, xs, y, j, z, rfl, rfl, ex_l ((e.trans e2).trans e3) h, fy, fs, h1, h2, hn, q H3 (e2.trans e3)⟩⟩
theorem ev_maxN {ns : List Int} {m : Int} (h : EvL ta σ H (vi ns)) (hm : m ∈ ns) (hx : ∀ y ∈ ns, y ≤ m) : Ev (tCB (rMax K) (tCons ta tNil)) σ H (.int m) := fun H1 e Q q =>
  h H1 e _ fun p H2 hp e2 g2 => ⟨p, ns, rfl, sq_of g2, List.length_pos_of_mem hm, fun k h1 h2 => by
    have := hx k h1
    have := h2 m hm
    have e0 : k = m := by omega
    rw [e0]
    exact q H2 e2⟩
theorem qw_par3VVL {i j l : Nat} {PA PB : V → Prop} {PC : List V → Prop} (h1 : EvW a d1 ta σ H PA) (h2 : EvW a d2 tb σ H PB) (h3 : EvWL a d3 tc σ H PC) (w : Well H a n) (hl : n + (d1 + d2 + d3) ≤ 2 ^ 50)
    (k : ∀ x y p zs H1, H p = none → But a H H1 → Well H1 a (n + (d1 + d2 + d3)) → PA x → PB y → H1 p = some (.lst zs) → PC zs →
      tz D (((σ.set i (some x)).set j (some y)).set l (some (.ref p))) H1) : tSeq (tPar3 i j l (tCons ta (tCons tb (tCons tc tNil)))) tz D σ H :=
  h1 n H (But.refl a H) w (by omega) _ fun x H2 b2 w2 pa => h2 (n + d1) H2 b2 w2 (by omega) _ fun y H3 b3 w3 pb => h3 (n + d1 + d2) H3 (b2.trans b3) w3 (by omega) _ fun p zs H4 hp b4 w4 g4 pc => by
    refine ⟨_, _, _, rfl, k x y p zs H4 (but_free (b2.trans b3) w3 hp) ((b2.trans b3).trans b4) ?_ pa pb g4 pc⟩
    rw [show n + (d1 + d2 + d3) = n + d1 + d2 + d3 by omega]
    exact w4
end
end Bk
namespace Bk
open PySem PySem.Spec PyProof.Rows L2 Evl SX
theorem _root_.L2.Room.units65 {k : Nat} {A : Around} (r : Room k A) : A.units + 65 < cLine := by have := r.un; omega
/-! ### a list or a text; None among data of any depth; a comprehension whose items have each a property -/
section
variable {X : Cx} {K : PySem.W.Frag}
def rLenB (K : PySem.W.Frag) : List V → Hp → VK → Prop := fun xs H Q => rLenS K xs H Q ∨ (∃ z, xs = [V.str z] ∧ z.length ≤ sizeLine ∧ Q (.int z.length) H)
theorem call_lenB (h : X.K = K) : CallR X (.builtin "len") (rLenB K) := (call_lenK h).or call_len_str
def rIxB (K : PySem.W.Frag) : R2 := fun x y H Q => rIxL K x y H Q ∨ rIxS x y H Q
theorem ix_bothK (h : X.K = K) : IxR X (rIxB K) := (ix_listK h).or ix_str
theorem op_inDK (h : X.K = K) (hu : X.A.units + 65 < cLine) : OpR X (compareOp .In) (rInD K) := by
  subst h
  exact op_inD hu
theorem mt_indexDK (h : X.K = K) (hu : X.A.units + 65 < cLine) : MtR X "list.index" (rIndexD K) := by
  subst h
  exact mt_indexD hu
end
section
variable {K : PySem.W.Frag} {σ : L2.St} {H : Hp} {ta tb tc tl te : TE} {tt : TT} {xs : List V} {a : Addr} {d : Nat}
theorem ev_lenBL {p : Addr} (ha : Ev ta σ H (.ref p)) (h : SqL K H p xs) : Ev (tCB (rLenB K) (tCons ta tNil)) σ H (.int (xs.length : Int)) := fun H1 e Q q =>
  ha H1 e _ fun H2 e2 => .inl ⟨p, xs, rfl, .inl (ex_l (e.trans e2) h), q H2 e2⟩
theorem ev_lenBS {l : List Nat} (ha : Ev ta σ H (.str (S l))) (hl : l.length ≤ 16000000) : Ev (tCB (rLenB K) (tCons ta tNil)) σ H (.int (l.length : Int)) := fun H1 e Q q =>
  ha H1 e _ fun H2 e2 => .inr ⟨S l, rfl, by rw [S_len]; show _ ≤ 2 ^ 24; omega, by rw [S_len]; exact q H2 e2⟩
/-- [f(x) for x in a new list], each item with its property -/
theorem elp_lcI {P : Nat → V → Hp → Prop} {j : Nat} {ws : List Nat} (mono : ∀ i v H1 H2, Ex H1 H2 → P i v H1 → P i v H2) (keep : ∀ i v H1 D ys zs, H1 D = some (.lst ys) → P i v H1 → P i v (upd H1 D (.lst zs)))
    (h : EvL tl σ H xs) (hz : xs.length ≤ 40000) (hw : ∀ x, wipe ((wipe σ ws).set j (some x)) ws = wipe σ ws) (he : ∀ (i : Nat) (x : V) H1, Ex H H1 → xs[i]? = some x → EvP te ((wipe σ ws).set j (some x)) H1 (P i)) :
    EvLP (tLc (iList K tl) (gName j) tYes te ws) σ H (fun ys H2 => ys.length = xs.length ∧ ∀ (i : Nat) (v : V), ys[i]? = some v → P i v H2) := fun H0 e Q q =>
  h H0 e _ fun a H1 ha e1 hx => ⟨a, rfl, ⟨xs, sq_of hx⟩, fun Dl hD =>
    lc_list (xs := xs) (fun i H' => Ex H1 H' ∧ ∃ acc : List V, H' Dl = some (.lst acc) ∧ acc.length = i ∧ ∀ (k : Nat) (v : V), acc[k]? = some v → P k v H') ⟨Ex.new hD, [], upd_same, rfl, fun _ _ h => by cases h⟩ (fun i H' _ p => sq_of (p.1 _ _ hx)) (fun i x H' hi p => ⟨hw x, by
      obtain ⟨p1, acc, g, la, pa⟩ := p
      have hi' := (List.getElem?_eq_some_iff.mp hi).1
      refine et_yes (σ := (wipe σ ws).set j (some x)) (H := H') H' (Ex.refl H') _ fun H3 e3 => iteT ?_
      refine he i x H3 (((e.trans e1).trans p1).trans e3) hi H3 (Ex.refl H3) _ fun v H4 e4 pv => ?_
      have e34 := e3.trans e4
      refine ⟨acc, e34 _ _ g, sz_lt (by omega), (p1.trans e34).mut hD, acc ++ [v], upd_same, by rw [List.length_append, la]; rfl, fun k u hk => keep _ _ _ _ _ _ (e34 _ _ g) ?_⟩
      by_cases c : k < acc.length
      · rw [List.getElem?_append_left c] at hk
        exact mono _ _ _ _ e34 (pa k u hk)
      · rw [List.getElem?_append_right (by omega)] at hk
        have k0 : k - acc.length = 0 := by
          have := (List.getElem?_eq_some_iff.mp hk).1
          have e1 : [v].length = 1 := rfl
          omega
        rw [k0] at hk
        cases hk
        have ki : k = i := by omega
        rw [ki]
        exact pv⟩)
    (fun H' ⟨p1, acc, g, la, pa⟩ => q Dl acc H' (fresh_back e1 hD) (e1.trans p1) g ⟨by omega, pa⟩)⟩
end

/-! None among terms -/
section
variable {K : PySem.W.Frag} {σ : L2.St} {H : Hp} {ta tb tl te : TE}
theorem ev_inD {d : PyData} {ds : List PyData} {x : V} (ha : Ev ta σ H x) (hx : ∀ H1, Dp K H1 x d) (hb : EvP tb σ H fun v H1 => Dp K H1 v (.list ds)) (sd : SeqAt.shaped d = true) (ss : SeqAt.shaped (.list ds) = true) : Ev (tOp (rInD K) ta tb) σ H (.bl (ds.any fun z => PyData.eqv z d)) := fun H1 e Q k =>
  ha H1 e _ fun H2 e2 => hb H2 (e.trans e2) _ fun v H3 e3 hv => ⟨d, ds, hx H3, hv, sd, ss, k H3 (e2.trans e3)⟩
theorem ev_indexD {l : Addr} {y : V} {xs : List V} {d z : PyData} {ds : List PyData} {j : Nat} (ha : Ev ta σ H (.ref l)) (g : SqL K H l xs) (hl : DpAll K H xs ds) (hb : Ev tb σ H y) (hy : ∀ H1, Dp K H1 y d) (ss : SeqAt.shaped (.list ds) = true) (sd : SeqAt.shaped d = true) (hj : ds[j]? = some z) (hz : PyData.eqv z d = true) (hn : ∀ (m : Nat) (z' : PyData), m < j → ds[m]? = some z' → PyData.eqv z' d = false) : Ev (tBM K "list" (rIndexD K) ta (tCons tb tNil)) σ H (.int (j : Nat)) := fun H1 e Q q =>
  ha H1 e _ fun H2 e2 => ⟨Or.inl ⟨rfl, _, ex_l (e.trans e2) g⟩, hb H2 (e.trans e2) _ fun H3 e3 => ⟨l, y, d, ds, j, z, rfl, rfl, .lst (ex_l ((e.trans e2).trans e3) g) (DpAll.ex ((e.trans e2).trans e3) ds xs hl), hy H3, ss, sd, hj, hz, hn, q H3 (e2.trans e3)⟩⟩
end
end Bk
namespace Bk
open PySem PySem.Spec PyProof.Rows L2 Evl
/-! ### sorted(e, key=len), e a list of lists -/
section
variable {X : Cx} {pins : List (Addr × Obj)} {σ : L2.St} {H : Hp} {s : Shared}
theorem inv_same (I : Inv X pins σ H s) : ∃ m, s.heap.Ns X.env.locals m ∧ ∀ (h' : Heap) (tk : Nat), h'.Ns X.env.locals m → (∀ b u, b ≠ X.env.locals → s.heap.get? b = some u → h'.get? b = some u) → Inv X pins σ H { s with heap := h', toks := tk } := by
  obtain ⟨m, hn, hl⟩ := I.loc
  refine ⟨m, hn, fun h' tk hn' k => ?_⟩
  have cne := I.cne
  have lt : ∀ {b : Addr} {o : Obj}, X.s_0.heap.get? b = some o → b ≠ X.env.locals := fun e => Nat.ne_of_lt (Nat.lt_of_lt_of_le (Heap.lt_size e) I.ok.above)
  refine ⟨I.ok, I.os, I.bare, ⟨fun b o e n hb hx => k _ _ (lt e) (I.base.keep b o e n hb hx), fun b o e n hb hx => ?_, I.base.free, fun b o e hx => ?_, I.base.tups, I.base.frzs, I.base.tbls⟩, ⟨m, hn', fun j y v' e1 e2 e3 => ?_⟩, fun y c e => ?_, I.free, I.freeC, fun p hp => ?_, fun b ob e => ?_, I.len⟩
  · obtain ⟨sl, e1⟩ := I.base.slot b o e n hb hx
    exact ⟨sl, k _ _ (lt e) e1⟩
  · obtain ⟨o', e1⟩ := I.base.there b o e hx
    exact ⟨o', k _ _ (lt e) e1⟩
  · obtain ⟨u', r', q⟩ := hl j y v' e1 e2 e3
    refine ⟨u', r', ?_⟩
    rcases q with ⟨kk, e⟩ | ⟨kk, c, e, z⟩
    · exact .inl ⟨kk, e⟩
    · obtain ⟨oc, hoc, hd⟩ := z
      exact .inr ⟨kk, c, e, oc, k _ _ (cne y c e) hoc, hd⟩
  · obtain ⟨w', oc, hoc, hd⟩ := I.cell y c e
    exact ⟨w', oc, k _ _ (cne y c e) hoc, hd⟩
  · obtain ⟨e, n, ne, nf, d⟩ := I.pin p hp
    exact ⟨k _ _ ne e, n, ne, nf, d⟩
  · refine (I.hok b ob e).stay (fun c w' hc q => k c _ ?_ q) (fun _ q => q) fun _ _ q => q
    rintro rfl
    have hfree := I.free
    rcases hc with rfl | hc
    · rw [hfree] at e
      cases e
    · rw [hfree] at hc
      cases hc
def newsOf (h : Heap) (L : Addr) : List (Addr × Obj) := (List.range h.objs.size).filterMap fun b => if b = L then none else (h.get? b).map fun o => (b, o)
theorem mem_newsOf {h : Heap} {L b : Addr} {o : Obj} : (b, o) ∈ newsOf h L ↔ h.get? b = some o ∧ b ≠ L := by
  unfold newsOf
  rw [List.mem_filterMap]
  constructor
  · rintro ⟨c, _, e⟩
    by_cases hc : c = L
    · rw [if_pos hc] at e
      cases e
    · rw [if_neg hc] at e
      cases g : h.get? c with
      | none =>
        rw [g] at e
        cases e
      | some u =>
        rw [g] at e
        cases e
        exact ⟨g, hc⟩
  · rintro ⟨e, ne⟩
    refine ⟨b, List.mem_range.mpr (Heap.lt_size e), ?_⟩
    rw [if_neg ne, e]
    rfl
theorem empty_get (a : Addr) : ({} : Heap).get? a = none := by
  show (#[] : Array Obj)[a]? = none
  simp
theorem obj_there {P : Program} {w : World} {h : Heap} {a : Addr} {o : HO} (x : ObjOk P w H h a o) : ∃ u, h.get? a = some u := by
  cases o with
  | lst xs => obtain ⟨_, _, _, _, e⟩ := x; exact ⟨_, e⟩
  | tup xs => obtain ⟨_, _, _, ob, e, _⟩ := x; exact ⟨_, e⟩
  | dK kvs => obtain ⟨_, _, _, _, o, _, _, e, _⟩ := x; exact ⟨_, e⟩
  | dT kvs => obtain ⟨_, _, _, _, o, _, _, e, _⟩ := x; exact ⟨_, e⟩
  | set S n => obtain ⟨o, _, _, _, e, _⟩ := x; exact ⟨_, e⟩
  | ins C dx fs => obtain ⟨_, _, _, e, _⟩ := x; exact ⟨_, e⟩
  | own y => obtain ⟨_, e⟩ := x; exact ⟨_, e⟩
  | xd fs => obtain ⟨_, ⟨_, _, _, e, _⟩, _⟩ := x; exact ⟨_, e⟩
  | rng lo hi => obtain ⟨_, _, _, e⟩ := x; exact ⟨_, e⟩
  | frz ob u => obtain ⟨e, _⟩ := x; exact ⟨_, e⟩
  | tbl ps => exact ⟨_, show h.get? a = some _ from x⟩
  | met f y => exact ⟨_, show h.get? a = some _ from x⟩
  | ext φ => obtain ⟨_, ⟨_, e⟩, _⟩ := x; exact ⟨_, e⟩
/-- a list that nobody tracks is taken up -/
theorem adoptL {a : Addr} {xs : List V} {its : List Value} {n : Nat} (I : Inv X pins σ H s) (ha : s.heap.get? a = some (seqObj "list" its.toArray n)) (hz : xs.length ≤ sizeLine) (r : Vals xs its) (na : H a = none) (n0 : X.s_0.heap.get? a = none) (nL : a ≠ X.env.locals)
    (nP : ∀ p ∈ X.pn ++ pins, p.1 ≠ a) : Inv X pins σ (upd H a (.lst xs)) s := by
  have ne : ∀ {b : Addr} {o : HO}, H b = some o → b ≠ a := fun q => ne_of_none q na
  refine ⟨I.ok, I.os, I.bare, ⟨I.base.keep, I.base.slot, fun b o q n x => ?_, I.base.there, fun b xs q => ?_, fun b o u q => ?_, fun b ps q => ?_⟩, I.loc, I.cell, ?_, fun x c h => ?_, fun p hp => ?_, fun b o q => ?_, I.len⟩
  · rw [upd_ne fun z => by rw [z, n0] at q; cases q]
    exact I.base.free b o q n x
  · have r := I.base.tups b xs q
    rw [upd_ne (ne r)]
    exact r
  · have r := I.base.frzs b o u q
    rw [upd_ne (ne r)]
    exact r
  · obtain ⟨more, r⟩ := I.base.tbls b ps q
    exact ⟨more, by rw [upd_ne (ne r)]; exact r⟩
  · rw [upd_ne nL.symm]
    exact I.free
  · obtain ⟨v, o, ho, hv⟩ := I.cell x c h
    rw [upd_ne fun z => by
      rw [z, ha] at ho
      cases ho
      cases hv]
    exact I.freeC x c h
  · obtain ⟨p1, p2, p3⟩ := I.pin p hp
    exact ⟨p1, by rw [upd_ne (nP p hp)]; exact p2, p3⟩
  · by_cases c : b = a
    · subst c
      rw [upd_same] at q
      cases q
      exact ⟨hz, its, n, r, ha⟩
    · rw [upd_ne c] at q
      exact (I.hok b o q).stay (fun _ _ _ r => r) (fun e r => by rw [upd_ne (ne r)]; exact r) fun e xs r => by rw [upd_ne (ne r)]; exact r
theorem vals_refs : ∀ {as : List Addr} {us : List Value}, Vals (as.map V.ref) us → us = as.map Value.ref
  | [], _, r => by cases r; rfl
  | a :: as, _, r => by
    cases r with
    | cons x y =>
      obtain rfl : _ = Value.ref a := x
      rw [List.map_cons, vals_refs y]
theorem refs_vals : ∀ {as : List Addr}, Vals (as.map V.ref) (as.map Value.ref)
  | [] => .nil
  | a :: as => .cons rfl refs_vals
def adOf : Value → Addr
  | .ref a => a
  | _ => 0
end
def tSortLen (K : PySem.W.Frag) (te : TE) : TE := fun σ H Q => te σ H fun x H1 => ∃ (a : Addr) (as : List Addr) (ns : List Nat), x = .ref a ∧ SqL K H1 a (as.map V.ref) ∧ ns.length = as.length ∧
  (∀ (i : Nat) (b : Addr) (n : Nat), as[i]? = some b → ns[i]? = some n → ∃ xs, SqL K H1 b xs ∧ xs.length = n) ∧
  ∀ (ps : List (Int × Addr)) p, ps.Perm ((ns.map Int.ofNat).zip as) → ps.Pairwise (fun p q => p.1 ≤ q.1) → H1 p = none → Q (.ref p) (upd H1 p (.lst (ps.map fun q => V.ref q.2)))
section
variable {X : Cx} {K : PySem.W.Frag} {e : Expr} {te : TE} {p p2 kp pos : Pos}
theorem pe_sortLen (hX : X.K = K) (hex : X.ex = []) (hg : Gl X "sorted") (hm : X.mg "sorted" = none) (hg2 : Gl X "len") (hm2 : X.mg "len" = none) (he : PE X e te)
    (hst : starEach [e] X.env = (false, eval e X.env) :: starEach [] X.env := by rfl) (hbk : backTo pos (starEach [e] X.env) = (false, eval e X.env) :: backTo pos (starEach [] X.env) := by rfl) (hpl : (backTo pos (starEach [e] X.env)).any (·.1) = false := by rfl) :
    PE X (.Call (.Name "sorted" p) [e] [⟨some "key", .Name "len" p2, kp⟩] pos) (tSortLen K te) := by
  subst hX
  refine ⟨fun pins s σ H Q I h => ?_⟩
  refine wpAny_Call_Name_kw (ld_blt I hg hm (u := .builtin "sorted") rfl ?_ (by decide) (by decide))
  have ha := (pa_cons he pa_nil hst).run pos pins s σ H (fun vs H1 => match vs with
    | [x] => ∃ (a : Addr) (as : List Addr) (ns : List Nat), x = .ref a ∧ SqL X.K H1 a (as.map V.ref) ∧ ns.length = as.length ∧
    (∀ (i : Nat) (b : Addr) (n : Nat), as[i]? = some b → ns[i]? = some n → ∃ xs, SqL X.K H1 b xs ∧ xs.length = n) ∧
    ∀ (ps : List (Int × Addr)) p, ps.Perm ((ns.map Int.ofNat).zip as) → ps.Pairwise (fun p q => p.1 ≤ q.1) → H1 p = none → Q (.ref p) (upd H1 p (.lst (ps.map fun q => V.ref q.2)))
    | _ => False) I h
  refine PyProof.Rows.callWith_kw (thn ha fun us s1 ⟨vs, H1, I1, r1, q0⟩ => ?_) hbk hpl rfl rfl
  obtain ⟨x, rfl, a, as, ns, ex, hs, hl, hb, q⟩ : ∃ x, vs = [x] ∧ ∃ (a : Addr) (as : List Addr) (ns : List Nat), x = .ref a ∧ SqL X.K H1 a (as.map V.ref) ∧ ns.length = as.length ∧ (∀ (i : Nat) (b : Addr) (n : Nat), as[i]? = some b → ns[i]? = some n → ∃ xs, SqL X.K H1 b xs ∧ xs.length = n) ∧ ∀ (ps : List (Int × Addr)) p, ps.Perm ((ns.map Int.ofNat).zip as) → ps.Pairwise (fun p q => p.1 ≤ q.1) → H1 p = none → Q (.ref p) (upd H1 p (.lst (ps.map fun q => V.ref q.2))) := by
    match vs, q0 with
    | [x], q0 => exact ⟨x, rfl, q0⟩
  subst ex
  obtain rfl := Vals.ref1 r1
  show wpAny _ _ (evalAll [do let v ← eval (.Name "len" p2) X.env; standAt pos; pure v]) _ _ _
  refine wpAny_evalAll_cons (wpAny_bind (ld_blt I1 hg2 hm2 (u := .builtin "len") rfl (wpAny_bind (wpAny_standAt (wpAny_pure ?_))) (by decide) (by decide)))
  refine wpAny_evalAll_nil ?_
  show wpAny _ _ (call (.builtin "sorted") [.ref a] [(Str.ofString "key", .builtin "len")]) _ _ _
  obtain ⟨its, rv, pl, hz⟩ := I1.list hs
  obtain ⟨m, hn, keep⟩ := inv_same I1
  have hlen := rv.length
  rw [List.length_map] at hlen hz
  have F0 : Fr {} X.env.locals s1.heap m := ⟨hn, fun b o e => (by rw [empty_get] at e; cases e), Nat.zero_le _⟩
  have N0 : News {} X.env.locals s1.heap (newsOf s1.heap X.env.locals) := fun q hq => by
    obtain ⟨b, o⟩ := q
    obtain ⟨h1, h2⟩ := mem_newsOf.mp hq
    exact ⟨h1, h2, empty_get _⟩
  have item : ∀ (i : Nat) (v : Value), its[i]? = some v → ∃ b, as[i]? = some b ∧ v = .ref b := fun i v hv => by
    have hi := (List.getElem?_eq_some_iff.mp hv).1
    have ga : as[i]? = some (as[i]'(by omega)) := List.getElem?_eq_getElem _
    obtain ⟨u, hu, ru⟩ := rv.get (i := i) (x := .ref (as[i]'(by omega))) (by rw [List.getElem?_map, ga]; rfl)
    rw [hv] at hu
    cases hu
    exact ⟨_, ga, ru⟩
  refine ksk_sortedSt (kz := ns.map Int.ofNat) (b := false) F0 N0 pl.isList (by rw [List.length_map]; omega) (by omega) (ksk_s1 _ _) (fun _ => ksk_l1 _ _) (fun x => ksk_t4 _ _) (fun i v k hv hk h tk own F' N' => ?_) fun D h' tk out c F' N' l1 ko => ?_
  · obtain ⟨b, gb, rfl⟩ := item i v hv
    rw [List.getElem?_map] at hk
    cases gn : ns[i]? with
    | none =>
      rw [gn] at hk
      cases hk
    | some n =>
      rw [gn] at hk
      cases hk
      obtain ⟨xs, hxs, lx⟩ := hb i b n gb gn
      obtain ⟨jts, rj, ⟨o, nn, g, c1, c2, c3⟩, hzj⟩ := I1.list hxs
      have nb : b ≠ X.env.locals := by
        rcases hxs with hh | ⟨ob, _, _, hk, _⟩
        · rintro rfl
          rcases hh with hh | ⟨_, hh⟩
          all_goals (rw [I1.free] at hh; cases hh)
        · exact Nat.ne_of_lt (Nat.lt_of_lt_of_le (Heap.lt_size (I1.ok.bs _ _ (I1.ok.mod.kin _ _ hk)).1) I1.ok.above)
      have g' : h.get? b = some o := (N' (b, o) (List.mem_append_left _ (mem_newsOf.mpr ⟨g, nb⟩))).1
      have il : Heap.IsList h b jts.toArray := ⟨o, g', c1, nn, c3⟩
      have hn63 := line63
      have lj := rj.length
      refine Calls.call_len_list (s := { s1 with heap := h, toks := tk }) il (by simp only [List.size_toArray]; omega) ?_
      refine ⟨h, _, tk + 1, rfl, ?_, F', N'⟩
      show Value.int ((jts.toArray.size : Nat) : Int) (tk + 1) = _
      rw [List.size_toArray, ← lj, lx]
      rfl
  · obtain ⟨ps, hp, ho, hw, _⟩ := ko
    have ei := vals_refs rv
    subst ei
    have nD := N' (D, seqObj "list" out c) (List.mem_cons_self ..)
    have I2 := keep h' tk F'.ns fun b u ne e => (N' (b, u) (List.mem_cons_of_mem _ (mem_newsOf.mpr ⟨e, ne⟩))).1
    have old : ∀ {b : Addr} {o : Obj}, s1.heap.get? b = some o → b ≠ D := fun {b o} e z => by
      by_cases hb : b = X.env.locals
      · exact nD.2.1 (z.symm.trans hb)
      · have := l1 _ (mem_newsOf.mpr ⟨e, hb⟩)
        rw [z] at this
        exact absurd this (Nat.lt_irrefl _)
    have na : H1 D = none := by
      cases g : H1 D with
      | none => rfl
      | some o =>
        obtain ⟨u, hu⟩ := obj_there (I1.hok D o g)
        exact absurd rfl (old hu)
    have n0 : X.s_0.heap.get? D = none := by
      cases g : X.s_0.heap.get? D with
      | none => rfl
      | some o =>
        obtain ⟨u, hu⟩ := I1.base.there D o g (by rw [hex]; exact fun z => nomatch z)
        exact absurd rfl (old hu)
    have snd : ∀ q ∈ ps, ∃ b, q.2 = .ref b := fun q hq => by
      have := hp.mem_iff.mp hq
      have := (List.of_mem_zip this).2
      obtain ⟨b, _, e⟩ := List.mem_map.mp this
      exact ⟨b, e.symm⟩
    have eo : out = ((ps.map fun q => (q.1, adOf q.2)).map fun q => Value.ref q.2).toArray := by
      rw [← Array.toArray_toList (xs := out), ho, List.map_map]
      congr 1
      refine List.map_congr_left fun q hq => ?_
      obtain ⟨b, e⟩ := snd q hq
      show q.2 = Value.ref (adOf q.2)
      rw [e]
      rfl
    have pz : (ps.map fun q => (q.1, adOf q.2)).Perm ((ns.map Int.ofNat).zip as) := by
      refine (hp.map _).trans (List.Perm.of_eq ?_)
      rw [List.zip_map_right, List.map_map]
      exact List.map_id' _
    have lp : ps.length = as.length := by
      have := hp.length_eq
      rw [List.length_zip, List.length_map, List.length_map] at this
      omega
    have I3 := adoptL (xs := (ps.map fun q => (q.1, adOf q.2)).map fun q => V.ref q.2) (its := (ps.map fun q => (q.1, adOf q.2)).map fun q => Value.ref q.2) I2 (by rw [← eo]; exact nD.1) (by rw [List.length_map, List.length_map]; omega) (by
      have := refs_vals (as := (ps.map fun q => (q.1, adOf q.2)).map fun q => q.2)
      rw [List.map_map, List.map_map (g := Value.ref)] at this
      exact this) na n0 nD.2.1 (fun p hp z => by
      obtain ⟨e, _⟩ := I1.pin p hp
      exact old e z)
    exact ⟨.ref D, _, I3, rfl, q _ D pz (by
      rw [List.pairwise_map]
      exact hw) na⟩
end
end Bk
namespace Bk
open PySem PySem.Spec PyProof.Rows L2 Evl
/-! ### list(d.items()) -/
section
variable {X : Cx} {pins : List (Addr × Obj)} {σ : L2.St} {H : Hp} {s : Shared}
/-- an object that nobody tracks is taken up -/
theorem adoptX {a : Addr} {u : HO} {o0 : Obj} (I : Inv X pins σ H s) (ha : s.heap.get? a = some o0) (hc : ∀ v, o0.data ≠ .cell v) (ok : ObjOk X.prog X.w (upd H a u) s.heap a u) (na : H a = none) (n0 : X.s_0.heap.get? a = none) (nL : a ≠ X.env.locals)
    (nP : ∀ p ∈ X.pn ++ pins, p.1 ≠ a) : Inv X pins σ (upd H a u) s := by
  have ne : ∀ {b : Addr} {o : HO}, H b = some o → b ≠ a := fun q => ne_of_none q na
  refine ⟨I.ok, I.os, I.bare, ⟨I.base.keep, I.base.slot, fun b o q n x => ?_, I.base.there, fun b xs q => ?_, fun b o u q => ?_, fun b ps q => ?_⟩, I.loc, I.cell, ?_, fun x c h => ?_, fun p hp => ?_, fun b o q => ?_, I.len⟩
  · rw [upd_ne fun z => by rw [z, n0] at q; cases q]
    exact I.base.free b o q n x
  · have r := I.base.tups b xs q
    rw [upd_ne (ne r)]
    exact r
  · have r := I.base.frzs b o u q
    rw [upd_ne (ne r)]
    exact r
  · obtain ⟨more, r⟩ := I.base.tbls b ps q
    exact ⟨more, by rw [upd_ne (ne r)]; exact r⟩
  · rw [upd_ne nL.symm]
    exact I.free
  · obtain ⟨v, o, ho, hv⟩ := I.cell x c h
    rw [upd_ne fun z => by
      rw [z, ha] at ho
      cases ho
      exact hc _ hv]
    exact I.freeC x c h
  · obtain ⟨p1, p2, p3⟩ := I.pin p hp
    exact ⟨p1, by rw [upd_ne (nP p hp)]; exact p2, p3⟩
  · by_cases c : b = a
    · subst c
      rw [upd_same] at q
      cases q
      exact ok
    · rw [upd_ne c] at q
      exact (I.hok b o q).stay (fun _ _ _ r => r) (fun e r => by rw [upd_ne (ne r)]; exact r) fun e xs r => by rw [upd_ne (ne r)]; exact r
/-- new pairs beyond a bound are taken up, one by one -/
theorem adoptPairs {n : Nat} (hs : X.s_0.heap.objs.size ≤ n) (hL : X.env.locals < n) (hP : ∀ p ∈ X.pn ++ pins, p.1 < n) : ∀ (ts : List Addr) (es : List (V × V)) (H : Hp), Inv X pins σ H s → (∀ a, n ≤ a → H a = none ∨ a ∉ ts) → ts.length = es.length → ts.Nodup → (∀ a ∈ ts, n ≤ a) →
    (∀ (i : Nat) a e, ts[i]? = some a → es[i]? = some e → ∃ u v, RelV e.1 u ∧ RelV e.2 v ∧ s.heap.get? a = some { cls := .type "tuple", data := .seq #[u, v] }) →
    ∃ H', Inv X pins σ H' s ∧ (∀ a, a ∉ ts → H' a = H a) ∧ ∀ (i : Nat) a e, ts[i]? = some a → es[i]? = some e → H' a = some (.tup [e.1, e.2])
  | [], es, H, I, _, _, _, _, _ => ⟨H, I, fun _ _ => rfl, fun i a e h => nomatch h⟩
  | t :: ts, [], H, I, _, l, _, _, _ => by cases l
  | t :: ts, e :: es, H, I, fr, l, nd, up, at' => by
    obtain ⟨u, v, ru, rv, g⟩ := at' 0 t e rfl rfl
    have nt := up t (List.mem_cons_self ..)
    have na : H t = none := (fr t nt).resolve_right fun z => z (List.mem_cons_self ..)
    have nd' := List.nodup_cons.mp nd
    have I1 := adoptX (u := .tup [e.1, e.2]) I g (fun v z => by cases z) ⟨by show 2 ≤ sizeLine; decide, [u, v], .cons ru (.cons rv .nil), ⟨_, g, rfl, _, rfl⟩⟩ na (by
      cases k : X.s_0.heap.get? t with
      | none => rfl
      | some o => exact absurd (Nat.lt_of_lt_of_le (Heap.lt_size k) (Nat.le_trans hs nt)) (Nat.lt_irrefl _)) (Nat.ne_of_gt (Nat.lt_of_lt_of_le hL nt)) (fun p hp => Nat.ne_of_lt (Nat.lt_of_lt_of_le (hP p hp) nt))
    obtain ⟨H', I', h1, h2⟩ := adoptPairs hs hL hP ts es _ I1 (fun a ha => by
      by_cases c : a = t
      · right
        rw [c]
        exact nd'.1
      · rw [upd_ne c]
        rcases fr a ha with z | z
        · exact .inl z
        · exact .inr fun m => z (List.mem_cons_of_mem _ m)) (by simpa using l) nd'.2 (fun a ha => up a (List.mem_cons_of_mem _ ha)) fun i a e' x y => at' (i + 1) a e' x y
    refine ⟨H', I', fun a ha => ?_, fun i a e' x y => ?_⟩
    · rw [h1 a fun m => ha (List.mem_cons_of_mem _ m), upd_ne fun z => ha (by rw [z]; exact List.mem_cons_self ..)]
    · cases i with
      | zero =>
        cases x
        cases y
        rw [h1 t nd'.1, upd_same]
      | succ i => exact h2 i a e' x y
end
def tListItems (td : TE) : TE := fun σ H Q => td σ H fun x H1 => ∃ (d : Addr) (kvs : List (Key × V)), x = .ref d ∧ H1 d = some (.dK kvs) ∧ ∀ (p : Addr) (ts : List Addr) (H2 : Hp), H1 p = none → Ex H1 H2 → H2 p = some (.lst (ts.map V.ref)) → ts.length = kvs.length →
  (∀ (i : Nat) (t : Addr) (e : Key × V), ts[i]? = some t → kvs[i]? = some e → H2 t = some (.tup [kV e.1, e.2])) → (∀ t ∈ ts, H1 t = none) → Q (.ref p) H2
section
variable {X : Cx} {e : Expr} {td : TE} {p apos cpos pos : Pos}
theorem pe_listItems (hex : X.calm = true) (hg : Gl X "list") (hm : X.mg "list" = none) (he : PE X e td) (hbase : attributeBase e "items" X.env (eval e X.env) = eval e X.env := by rfl) (hline : (apos.endLine == cpos.line) = true := by rfl)
    (hst : starEach [.Call (.Attribute e "items" apos) [] [] cpos] X.env = (false, eval (.Call (.Attribute e "items" apos) [] [] cpos) X.env) :: starEach [] X.env := by rfl) :
    PE X (.Call (.Name "list" p) [.Call (.Attribute e "items" apos) [] [] cpos] [] pos) (tListItems td) := by
  refine ⟨fun pins s σ H Q I h => ?_⟩
  refine wpAny_Call_Name_kw (ld_blt I hg hm (u := .type "list") rfl ?_ (by decide) (by decide))
  refine PyProof.Rows.callWith_type1 ?_ hst rfl
  rw [hst]
  refine Calls.spliced_cons ?_
  refine wpAny_Call_method (T := "dict") (id := "dict.items") hbase rfl hline PySem.F.plainAttrs_dict PySem.F.slot_dict_items PySem.F.type_dict_items (thn (he.run pins s σ H _ I h) fun u s1 ⟨x, H1, I1, rx, d, kvs, ex, hd, q⟩ => ?_)
  subst ex
  obtain rfl : u = Value.ref d := rx
  obtain ⟨hz, hsys, vs, kv, dd⟩ := dk_of I1.hok hd
  refine ⟨dd.typeIs, dd.mapOf.noDict, ?_⟩
  show wpAny _ _ (callWith cpos (.builtin "dict.items") [.ref d] [] []) _ X.xe s1
  refine method_meetsIn PySem.F.slot_dict_items PySem.F.entry_dict_items rfl (PySem.evalArgs_none ⟨rfl, dd.typeIs, PySem.F.args_dict_items_1 _, _, meets_dict_items (mixKind X.prog X.w) d hsys, ⟨vs, dd⟩, ?_⟩)
  refine Calls.spliced_nil ?_
  have I2 : Inv X pins σ H1 { s1 with heap := s1.heap.push { cls := .type "dict_items", data := .fields #[.ref d] } } := I1.kept (t' := s1.toks) fun b ob q => Heap.get?_push_of_some _ q
  have hl : kvs.length = vs.length := Paired.length kv
  obtain ⟨ep, da⟩ := (dd.push { cls := .type "dict_items", data := .fields #[.ref d] }).dictAt
  refine PySem.W.kdx_call (knd := mixKind X.prog X.w) (kvs := vs) (ep := ep) (I2.ok.hd hex) ⟨_, Heap.get?_push_size _ rfl, rfl, rfl⟩ da (by rw [← hl]; exact hz) fun h' tk acc c as hk hS hla hG hacc => ?_
  have I3 : Inv X pins σ H1 { s1 with heap := h', toks := tk } := I2.kept hk
  generalize hsz : (s1.heap.push { cls := .type "dict_items", data := .fields #[.ref d] }).objs.size = S at *
  have hS0 : s1.heap.objs.size ≤ S := by rw [← hsz, size_push']; exact Nat.le_succ _
  have hloc : X.env.locals < S := by
    obtain ⟨m, hn, _⟩ := I1.loc
    exact Nat.lt_of_lt_of_le hn.lt hS0
  have hab : X.s_0.heap.objs.size ≤ S := Nat.le_trans I1.ok.above (Nat.le_of_lt hloc)
  have hpin : ∀ p ∈ X.pn ++ pins, p.1 < S := fun p hp => Nat.lt_of_lt_of_le (Heap.lt_size (I1.pin p hp).1) hS0
  have fr : ∀ a, S ≤ a → H1 a = none := fun a ha => I1.hok.fresh (Nat.le_trans hS0 ha)
  have rise := hG.rise
  have above := hG.above
  obtain ⟨H', I4, k1, k2⟩ := adoptPairs (s := { s1 with heap := h', toks := tk }) hab hloc hpin as (kvs.map fun e => (kV e.1, e.2)) H1 I3 (fun a ha => .inl (fr a ha)) (by rw [List.length_map, hla, hl]) (rise.imp fun h => Nat.ne_of_lt h) (fun a ha => Nat.le_of_lt (above a ha)) (fun i a e ga ge => by
    rw [List.getElem?_map] at ge
    cases gk : kvs[i]? with
    | none =>
      rw [gk] at ge
      cases ge
    | some z =>
      obtain ⟨k, v⟩ := z
      rw [gk] at ge
      cases ge
      obtain ⟨key, k', x, hv', hkey, ht⟩ := hG.pairs i a ga
      obtain ⟨u, hu, ru⟩ := kv_get kv gk
      rw [hu] at hv'
      cases hv'
      exact ⟨key, _, relV_key (show keyIs _ key = true from hkey), ru, ht⟩)
  have nS : S ∉ as := fun m => Nat.lt_irrefl _ (above S m)
  have I5 := adoptL (xs := as.map V.ref) (its := as.map Value.ref) (n := c) I4 (by
    rw [← hacc, Array.toArray_toList]
    exact hS) (by rw [List.length_map, hla, ← hl]; exact hz) refs_vals (by rw [k1 S nS]; exact fr S (Nat.le_refl _)) (by
      cases k : X.s_0.heap.get? S with
      | none => rfl
      | some o => exact absurd (Nat.lt_of_lt_of_le (Heap.lt_size k) hab) (Nat.lt_irrefl _)) (Nat.ne_of_gt hloc) (fun p hp => Nat.ne_of_lt (hpin p hp))
  refine ⟨.ref S, _, I5, rfl, q S as _ (fr S (Nat.le_refl _)) (fun a u hu => ?_) upd_same (by rw [hla, hl]) (fun i t e gt ge => ?_) (fun t ht => fr t (Nat.le_of_lt (above t ht)))⟩
  · have na : a ∉ as := fun m => by
      rw [fr a (Nat.le_of_lt (above a m))] at hu
      cases hu
    have nz : a ≠ S := fun z => by
      rw [z, fr S (Nat.le_refl _)] at hu
      cases hu
    rw [upd_ne nz, k1 a na]
    exact hu
  · rw [upd_ne fun z => nS (by rw [← z]; exact List.mem_of_getElem? gt)]
    exact k2 i t (kV e.1, e.2) gt (by rw [List.getElem?_map, ge]; rfl)
/-! ### min(xs, default=None) of an empty list -/
def rMinNone (K : PySem.W.Frag) : List V → List V → Hp → VK → Prop := fun vs zs H Q => ∃ (a : Addr), vs = [V.ref a] ∧ zs = [.non] ∧ SqL K H a [] ∧ Q .non H
theorem cr_minNone {K : PySem.W.Frag} (hX : X.K = K) (hc : X.calm = true) (hu : X.A.units + 1 < cLine) : CallRK X (.builtin "min") [Str.ofString "default"] (rMinNone K) := by
  subst hX
  intro pins s σ H vs zs us ws Q I r rz h
  obtain ⟨a, rfl, rfl, hs, q⟩ := h
  obtain rfl := Vals.ref1 r
  obtain ⟨w1, rfl, e1⟩ := vals1 rz
  obtain rfl : w1 = Value.none := e1
  obtain ⟨its, rv, hl, _⟩ := I.list hs
  cases rv
  exact PySem.W.min_list_default (xs := []) (as := []) (I.ok.hd hc) hl.isList .nil ⟨(fun _ h => nomatch h), (fun _ h => nomatch h)⟩ (by show _ + 1 + 0 < _; omega) (fun _ h' tk hk => ⟨.non, H, I.kept hk, rfl, q⟩) fun y ys i v h' tk bs e => nomatch e
/-! ### len(d) -/
def rLenD : List V → Hp → VK → Prop := fun xs H Q => ∃ (a : Addr) (kvs : List (Key × V)), xs = [V.ref a] ∧ Rd H a (.dK kvs) ∧ Q (.int (kvs.length : Nat)) H
theorem call_lenD : CallR X (.builtin "len") rLenD := by
  intro pins s σ H xs us Q I r h
  obtain ⟨a, kvs, rfl, hd, q⟩ := h
  obtain rfl := Vals.ref1 r
  exact d_len I hd fun t s' I' => ⟨.int _, H, I', ⟨t, rfl⟩, q⟩
end
/-! ### dicts walked -/
section
variable {K : PySem.W.Frag} {σ : L2.St} {H : Hp} {te td tk tv : TE} {tt : TT} {d : Addr} {kvs : List (Key × V)}
/-- H with the dict at d locked -/
def frz (H : Hp) (d : Addr) (od : Obj) (kvs : List (Key × V)) : Hp := upd H d (.frz od (.dK kvs))
theorem unfrz {H H' : Hp} {od : Obj} (g : H d = some (.dK kvs)) (e : Ex (frz H d od kvs) H') : Ex H (upd H' d (.dK kvs)) := fun a u h => by
  by_cases c : a = d
  · subst c
    rw [g] at h
    cases h
    exact upd_same
  · rw [upd_ne c]
    exact e a u (by unfold frz; rw [upd_ne c]; exact h)
theorem ix_pairK {i : Nat} {e : Key × V} {x y : V} (h : kvs[i]? = some e) (hx : (kvs[i]?.map fun kv => kV kv.1) = some x) (hy : (kvs[i]?.map Prod.snd) = some y) : x = kV e.1 ∧ y = e.2 := by
  rw [h] at hx hy
  cases hx
  cases hy
  exact ⟨rfl, rfl⟩
/-- [e for k, v in d.items() if ..] of pure parts -/
theorem el_lcIt {i j m : Nat} {ws : List Nat} (f : Nat → Bool) (v : Nat → V) (hd : σ[m]? = some (some (.ref d))) (g : H d = some (.dK kvs)) (hz : kvs.length ≤ 40000) (hw : ∀ x y, wipe (((wipe σ ws).set i (some x)).set j (some y)) ws = wipe σ ws)
    (ht : ∀ (n : Nat) e H1, kvs[n]? = some e → EvT tt (((wipe σ ws).set i (some (kV e.1))).set j (some e.2)) H1 (f n)) (he : ∀ (n : Nat) e H1, kvs[n]? = some e → f n = true → Ev te (((wipe σ ws).set i (some (kV e.1))).set j (some e.2)) H1 (v n)) :
    EvL (tLockE (tLc (iItems (tVar m)) (g2 K i j) tt te ws)) σ H (given kvs.length f v) := fun H1 e Q q => ⟨d, .dK kvs, e _ _ g, True.intro, fun od => ⟨.ref d, hd, d, od, kvs, rfl, upd_same, fun Dl hD => by
    have hDd : Dl ≠ d := fun z => by
      rw [z, upd_same] at hD
      cases hD
    refine lc_it (walk_items (d := d) (o := od) (kvs := kvs)) (fun n H' => Cw (frz H1 d od kvs) f v Dl n H') ⟨hD, Ex.new hD, upd_same⟩ (fun n H' _ p => p.2.1 _ _ upd_same) (fun n x H' H'' hn p y => ?_) (fun H' p => ⟨p.2.1 _ _ upd_same, q Dl _ ?_ (unfrz (e _ _ g) p.2.1) ?_⟩)
    · obtain ⟨T, x1, y1, rfl, hT, rfl, hx, hy⟩ := y
      have gn := List.getElem?_eq_getElem hn
      obtain ⟨rfl, rfl⟩ := ix_pairK gn hx hy
      refine g2_go upd_same ⟨hw _ _, ?_⟩
      obtain ⟨p1, p2, p3⟩ := p
      have nT : Dl ≠ T := fun z => by
        rw [← z, p3] at hT
        cases hT
      exact cw_turn (H := frz H1 d od kvs) ⟨p1, p2.trans (Ex.new hT), by rw [upd_ne nT]; exact p3⟩ (by omega) (ht n _ _ gn) (fun hf => he n _ _ gn hf)
    · rw [upd_ne hDd] at hD
      exact hD
    · rw [upd_ne hDd]
      exact p.2.2⟩⟩
/-- [e for k in d] of pure parts -/
theorem el_lcKy {i m : Nat} {ws : List Nat} (f : Nat → Bool) (v : Nat → V) (hd : σ[m]? = some (some (.ref d))) (g : H d = some (.dK kvs)) (hz : kvs.length ≤ 40000) (hw : ∀ x, wipe ((wipe σ ws).set i (some x)) ws = wipe σ ws)
    (ht : ∀ (n : Nat) e H1, kvs[n]? = some e → EvT tt ((wipe σ ws).set i (some (kV e.1))) H1 (f n)) (he : ∀ (n : Nat) e H1, kvs[n]? = some e → f n = true → Ev te ((wipe σ ws).set i (some (kV e.1))) H1 (v n)) :
    EvL (tLockE (tLc (iKeys (tVar m)) (gName i) tt te ws)) σ H (given kvs.length f v) := fun H1 e Q q => ⟨d, .dK kvs, e _ _ g, True.intro, fun od => ⟨.ref d, hd, d, od, rfl, .inl ⟨kvs, upd_same, fun Dl hD => by
    have hDd : Dl ≠ d := fun z => by
      rw [z, upd_same] at hD
      cases hD
    refine lc_it (walk_keys (d := d) (o := od) (kvs := kvs)) (fun n H' => Cw (frz H1 d od kvs) f v Dl n H') ⟨hD, Ex.new hD, upd_same⟩ (fun n H' _ p => p.2.1 _ _ upd_same) (fun n x H' H'' hn p y => ?_) (fun H' p => ⟨p.2.1 _ _ upd_same, q Dl _ ?_ (unfrz (e _ _ g) p.2.1) ?_⟩)
    · obtain ⟨rfl, k, v1, gk, rfl⟩ := y
      exact ⟨hw _, cw_turn (H := frz H1 d od kvs) p (by omega) (ht n _ _ gk) (fun hf => he n _ _ gk hf)⟩
    · rw [upd_ne hDd] at hD
      exact hD
    · rw [upd_ne hDd]
      exact p.2.2⟩⟩⟩
def RetDk (kvs : List (Key × V)) (H : Hp) (Q : VK) : Prop := ∀ p H2, H p = none → Ex H H2 → H2 p = some (.dK kvs) → Q (.ref p) H2
def EvDk (te : TE) (σ : L2.St) (H : Hp) (kvs : List (Key × V)) : Prop := ∀ H1, Ex H H1 → ∀ Q : VK, RetDk kvs H1 Q → te σ H1 Q
def SpDk (sp : Sp) (vs : List V) (H : Hp) (kvs : List (Key × V)) : Prop := ∀ H1, Ex H H1 → ∀ Q : VK, RetDk kvs H1 Q → ∀ E : XK, sp vs H1 Q E
theorem dc_it {J : It} {n : Nat} {G : Hp → Prop} {Y : Nat → Hp → V → Hp → Prop} (w : Walk J n G Y) {g : TG} {ws : List Nat} {H1 : Hp} {D : Addr} {Qd : Hp → Prop} (Pv : Nat → Hp → Prop) (h0 : Pv 0 (upd H1 D (.dK []))) (hG : ∀ i H, i ≤ n → Pv i H → G H)
    (hs : ∀ i x H H', i < n → Pv i H → Y i H x H' → g x (wipe σ ws) H' fun σ2 H2 => wipe σ2 ws = wipe σ ws ∧ tt σ2 H2 fun b H3 =>
      if b = true then tk σ2 H3 fun y H4 => tv σ2 H4 fun z H5 => ∃ kvs k, y = kV k ∧ H5 D = some (.dK kvs) ∧ kvs.length < sizeLine ∧ Pv (i + 1) (upd H5 D (.dK (putK kvs k z))) else Pv (i + 1) H3) (hd : ∀ H, Pv n H → Qd H) :
    ∃ W : Nat → Nat → Hp → Prop, (∃ m, W 0 m (upd H1 D (.dK []))) ∧ ∀ i m H, W i m H →
      (J.stop i H ∧ Qd H) ∨ (J.go i H ∧ ∃ Nx : Hp → Prop, (∀ H', Nx H' → ∃ m', m' < m ∧ W (i + 1) m' H') ∧ ∀ x H', J.yld i H x H' → g x (wipe σ ws) H' fun σ2 H2 => wipe σ2 ws = wipe σ ws ∧ tt σ2 H2 fun b H3 =>
        if b = true then tk σ2 H3 fun y H4 => tv σ2 H4 fun z H5 => ∃ kvs k, y = kV k ∧ H5 D = some (.dK kvs) ∧ kvs.length < sizeLine ∧ Nx (upd H5 D (.dK (putK kvs k z))) else Nx H3) := by
  refine ⟨fun i m H => m = n - i ∧ i ≤ n ∧ Pv i H, ⟨n, by simp, Nat.zero_le _, h0⟩, ?_⟩
  rintro i m H ⟨rfl, hi, p⟩
  have q := hG i H hi p
  by_cases hlt : i < n
  · refine .inr ⟨w.goes i H hlt q, Pv (i + 1), fun H' p' => ⟨n - (i + 1), by omega, rfl, hlt, p'⟩, fun x H' y => hs i x H H' hlt p (w.yields i H x H' hlt q y)⟩
  · have e : i = n := by omega
    subst e
    exact .inl ⟨w.stops H q, hd H p⟩
theorem valV_no {l : List (Key × V)} {k : Key} (h : ∀ e ∈ l, e.1 ≠ k) : valV l k = none := by
  induction l with
  | nil => rfl
  | cons a l ih =>
    rw [valV_neg (h a (List.mem_cons_self ..))]
    exact ih fun e he => h e (List.mem_cons_of_mem _ he)
theorem valV_mem {l : List (Key × V)} {k : Key} {v : V} (h : valV l k = some v) : (k, v) ∈ l := by
  induction l with
  | nil => cases h
  | cons a l ih =>
    by_cases c : a.1 = k
    · rw [valV_pos c] at h
      cases h
      rw [← c]
      exact List.mem_cons_self ..
    · rw [valV_neg c] at h
      exact List.mem_cons_of_mem _ (ih h)
/-- {k: v for k, v in d.items() if ..} -/
theorem dk_dcIt {i j m : Nat} {ws : List Nat} (p : Key × V → Bool) (hd : σ[m]? = some (some (.ref d))) (g : H d = some (.dK kvs)) (nd : (kvs.map (·.1)).Nodup) (hz : kvs.length ≤ 40000) (hw : ∀ x y, wipe (((wipe σ ws).set i (some x)).set j (some y)) ws = wipe σ ws)
    (ht : ∀ (e : Key × V) H1, e ∈ kvs → EvT tt (((wipe σ ws).set i (some (kV e.1))).set j (some e.2)) H1 (p e)) (hk : ∀ (e : Key × V) H1, Ev tk (((wipe σ ws).set i (some (kV e.1))).set j (some e.2)) H1 (kV e.1)) (hv : ∀ (e : Key × V) H1, Ev tv (((wipe σ ws).set i (some (kV e.1))).set j (some e.2)) H1 e.2) :
    EvDk (tLockE (tDc (iItems (tVar m)) (g2 K i j) tt tk tv ws)) σ H (kvs.filter p) := fun H1 e Q q => ⟨d, .dK kvs, e _ _ g, True.intro, fun od => ⟨.ref d, hd, d, od, kvs, rfl, upd_same, fun Dl hD => by
    have hDd : Dl ≠ d := fun z => by
      rw [z, upd_same] at hD
      cases hD
    refine dc_it (walk_items (d := d) (o := od) (kvs := kvs)) (fun n H' => frz H1 d od kvs Dl = none ∧ Ex (frz H1 d od kvs) H' ∧ H' Dl = some (.dK ((kvs.take n).filter p))) ⟨hD, Ex.new hD, upd_same⟩ (fun n H' _ p => p.2.1 _ _ upd_same) (fun n x H' H'' hn pp y => ?_) (fun H' pp => ⟨pp.2.1 _ _ upd_same, q Dl _ ?_ (unfrz (e _ _ g) pp.2.1) ?_⟩)
    · obtain ⟨T, x1, y1, rfl, hT, rfl, hx, hy⟩ := y
      have gn := List.getElem?_eq_getElem hn
      obtain ⟨rfl, rfl⟩ := ix_pairK gn hx hy
      have mn := List.getElem_mem hn
      have ne : ∀ e ∈ kvs.take n, e.1 ≠ (kvs[n]).1 := fun e he z => by
        obtain ⟨t, ht', et⟩ := List.getElem_of_mem he
        rw [List.length_take] at ht'
        have e1 : kvs[t]? = some e := by
          rw [← et, List.getElem_take]
          exact List.getElem?_eq_getElem (by omega)
        have a : (kvs.map (·.1))[t]? = some e.1 := by rw [List.getElem?_map, e1]; rfl
        have b : (kvs.map (·.1))[n]? = some e.1 := by rw [List.getElem?_map, gn, z]; rfl
        have := (List.getElem?_inj (by rw [List.length_map]; omega) nd).mp (a.trans b.symm)
        omega
      have ts : kvs.take (n + 1) = kvs.take n ++ [kvs[n]] := by rw [List.take_succ, gn]; rfl
      generalize kvs[n] = ee at *
      refine g2_go upd_same ⟨hw _ _, ?_⟩
      obtain ⟨p1, p2, p3⟩ := pp
      have nT : Dl ≠ T := fun z => by
        rw [← z, p3] at hT
        cases hT
      have p3' : upd H' T (.tup [kV ee.1, ee.2]) Dl = some (.dK ((kvs.take n).filter p)) := by rw [upd_ne nT]; exact p3
      have p2' := p2.trans (Ex.new (o := .tup [kV ee.1, ee.2]) hT)
      refine ht ee _ mn _ (Ex.refl _) _ fun H3 e3 => ?_
      cases hp : p ee with
      | true =>
        refine iteT (hk ee H3 H3 (Ex.refl _) _ fun H4 e4 => hv ee H4 H4 (Ex.refl _) _ fun H5 e5 => ⟨_, ee.1, rfl, e5 _ _ (e4 _ _ (e3 _ _ p3')), ?_, p1, (p2'.trans ((e3.trans e4).trans e5)).mut p1, ?_⟩)
        · have := List.length_filter_le p (kvs.take n)
          rw [List.length_take] at this
          exact sz_lt (by omega)
        · rw [upd_same, ts, List.filter_append, putK_new _ (valV_no fun e he => ne e (List.mem_filter.mp he).1)]
          show some (HO.dK _) = some (HO.dK (_ ++ List.filter p [ee]))
          rw [List.filter_cons, if_pos hp]
          rfl
      | false =>
        refine iteF ⟨p1, p2'.trans e3, ?_⟩
        rw [ts, List.filter_append]
        show H3 Dl = some (HO.dK (_ ++ List.filter p [ee]))
        rw [List.filter_cons, if_neg (by rw [hp]; exact Bool.false_ne_true)]
        show H3 Dl = some (HO.dK (_ ++ []))
        rw [List.append_nil]
        exact e3 _ _ p3'
    · rw [upd_ne hDd] at hD
      exact hD
    · rw [upd_ne hDd, pp.2.2, List.take_length]⟩⟩
theorem s_retDk {D : Ends} (h : EvDk te σ H kvs) (k : ∀ p H1, H p = none → Ex H H1 → H1 p = some (.dK kvs) → D.rt (.ref p) H1) : tRet te D σ H := h H (Ex.refl H) _ k
theorem q_asgDk {D : Ends} {tz : TS} {i : Nat} (h : EvDk te σ H kvs) (k : ∀ p H1, H p = none → Ex H H1 → H1 p = some (.dK kvs) → tz D (σ.set i (some (.ref p))) H1) : tSeq (tAsg te (gName i)) tz D σ H := h H (Ex.refl H) _ k
theorem dk_new : EvDk tDNewK σ H [] := fun H1 e Q q p hp => q p _ hp (Ex.new hp) upd_same
theorem dk_call {sp : Sp} {vs : List V} {E : XK} {ta : TA} (h : EvA ta σ H vs) (hs : SpDk sp vs H kvs) : EvDk (tCall sp [] E ta) σ H kvs := fun H1 e Q q =>
  h H1 e _ fun H2 e2 => by
    have := hs H2 (e.trans e2) Q (fun p H3 hp e3 g => q p H3 (fresh_back e2 hp) (e2.trans e3) g) E
    rw [← List.append_nil vs] at this
    exact this
/-- d.get(k, x) -/
theorem ev_get2 {ty tx : TE} {k : Key} {x : V} (hd : Ev td σ H (.ref d)) (g : H d = some (.dK kvs)) (hk : Ev ty σ H (kV k)) (hx : Ev tx σ H x) : Ev (tDGet2 td ty tx) σ H ((valV kvs k).getD x) := fun H1 e Q q =>
  hd H1 e _ fun H2 e2 => ⟨d, rfl, .inl ⟨kvs, .inl ((e.trans e2) _ _ g)⟩, hk H2 (e.trans e2) _ fun H3 e3 => hx H3 ((e.trans e2).trans e3) _ fun H4 e4 => ⟨_, DGet.k (((e.trans e2).trans (e3.trans e4)) _ _ g), q H4 (e2.trans (e3.trans e4))⟩⟩
/-- d[k] = v -/
theorem s_dput {ty tv' : TE} {D : Ends} {k : Key} {v : V} (g : H d = some (.dK kvs)) (hv : Ev tv' σ H v) (hd : Ev td σ H (.ref d)) (hk : Ev ty σ H (kV k)) (hz : kvs.length < 100000) (q : ∀ H1, Ex H H1 → D.nx σ (upd H1 d (.dK (putK kvs k v)))) : sDPut td ty tv' D σ H :=
  hv H (Ex.refl H) _ fun H1 e1 => hd H1 e1 _ fun H2 e2 => hk H2 (e1.trans e2) _ fun H3 e3 => ⟨d, _, rfl, DPut.k (((e1.trans e2).trans e3) _ _ g) (sz_lt hz), q H3 ((e1.trans e2).trans e3)⟩
theorem ev_lenDk {ta : TE} (h : EvDk ta σ H kvs) : Ev (tCB rLenD (tCons ta tNil)) σ H (.int (kvs.length : Nat)) := fun H1 e Q q =>
  h H1 e _ fun p H2 hp e2 g => ⟨p, kvs, rfl, .inl g, q H2 e2⟩
end
end Bk
namespace Bk
open PySem PySem.Spec PyProof.Rows L2 Evl
section
variable {K : PySem.W.Frag} {σ : L2.St} {H : Hp} {te tl : TE} {tt : TT} {tu tz : TS} {D : Ends} {d : Addr} {kvs : List (Key × V)}
theorem given_none (n : Nat) (v : Nat → V) : given n (fun _ => false) v = [] := by
  unfold given
  simp
theorem q_asgLk {i : Nat} {xs : List V} (h : EvL (tLockE te) σ H xs) (k : ∀ p H1, H p = none → Ex H H1 → H1 p = some (.lst xs) → tz D (σ.set i (some (.ref p))) H1) : tSeq (tLock (tAsg te (gName i))) tz D σ H := by
  obtain ⟨d, u, h1, h2, h3⟩ := h H (Ex.refl H) (fun v H' => tz D (σ.set i (some v)) H') k
  exact ⟨d, u, h1, h2, h3⟩
/-- for x, y in xs (a list of pairs) -/
theorem q_forP2 {a : Addr} {xs : List V} {i j : Nat} (h : Ev tl σ H (.ref a)) (hx : SqL K H a xs) (Pv : Nat → L2.St → Hp → Prop) (h0 : ∀ H1, Ex H H1 → Pv 0 σ H1) (hl : ∀ n σ' H', n ≤ xs.length → Pv n σ' H' → SqL K H' a xs)
    (hs : ∀ n v σ' H', xs[n]? = some v → Pv n σ' H' → ∃ t x y, v = .ref t ∧ SqT K H' t [x, y] ∧ tu { D with nx := Pv (n + 1), ct := Pv (n + 1), bk := tz D } ((σ'.set i (some x)).set j (some y)) H') (hd : ∀ σ' H', Pv xs.length σ' H' → tz D σ' H') :
    tSeq (tFor (iList K tl) (gTup K 2 (gCons (gName i) (gCons (gName j) gNil))) tu) tz D σ H :=
  h H (Ex.refl H) _ fun H1 e => ⟨a, rfl, ⟨xs, ex_l e hx⟩, for_list (D := { D with nx := tz D }) Pv (h0 H1 e) hl (fun n v σ' H' hv p => by
    obtain ⟨t, x, y, rfl, ht, q⟩ := hs n v σ' H' hv p
    exact ⟨t, _, rfl, ht, rfl, _, _, rfl, _, _, rfl, rfl, q⟩) hd⟩
/-- xs = [a new tuple for k, v in d.items() if true]: of what is in it nothing is told -/
theorem q_lcAny {i j m n : Nat} {ws : List Nat} {us : Key × V → List V} (hd : σ[m]? = some (some (.ref d))) (g : H d = some (.dK kvs)) (hz : kvs.length ≤ 40000) (hw : ∀ x y, wipe (((wipe σ ws).set i (some x)).set j (some y)) ws = wipe σ ws)
    (ht : ∀ (e : Key × V) H1, e ∈ kvs → EvT tt (((wipe σ ws).set i (some (kV e.1))).set j (some e.2)) H1 true) (he : ∀ (e : Key × V) H1, e ∈ kvs → EvU te (((wipe σ ws).set i (some (kV e.1))).set j (some e.2)) H1 (us e))
    (k : ∀ p H1, Ex H H1 → tz D (σ.set n (some (.ref p))) H1) : tSeq (tLock (tAsg (tLc (iItems (tVar m)) (g2 K i j) tt te ws) (gName n))) tz D σ H := ⟨d, .dK kvs, g, True.intro, fun od => ⟨.ref d, hd, d, od, kvs, rfl, upd_same, fun Dl hD => by
    refine lc_it (walk_items (d := d) (o := od) (kvs := kvs)) (fun t H' => frz H d od kvs Dl = none ∧ Ex (frz H d od kvs) H' ∧ ∃ acc, H' Dl = some (.lst acc) ∧ acc.length ≤ t) ⟨hD, Ex.new hD, [], upd_same, Nat.le_refl _⟩ (fun t H' _ p => p.2.1 _ _ upd_same) (fun t x H' H'' hn pp y => ?_) (fun H' pp => ⟨pp.2.1 _ _ upd_same, k Dl _ (unfrz g pp.2.1)⟩)
    obtain ⟨T, x1, y1, rfl, hT, rfl, hx, hy⟩ := y
    have gn := List.getElem?_eq_getElem hn
    obtain ⟨rfl, rfl⟩ := ix_pairK gn hx hy
    have mn := List.getElem_mem hn
    generalize kvs[t] = ee at *
    refine g2_go upd_same ⟨hw _ _, ?_⟩
    obtain ⟨p1, p2, acc, p3, p4⟩ := pp
    have nT : Dl ≠ T := fun z => by
      rw [← z, p3] at hT
      cases hT
    have p3' : upd H' T (.tup [kV ee.1, ee.2]) Dl = some (.lst acc) := by rw [upd_ne nT]; exact p3
    have p2' := p2.trans (Ex.new (o := .tup [kV ee.1, ee.2]) hT)
    refine ht ee _ mn _ (Ex.refl _) _ fun H3 e3 => iteT ?_
    refine he ee H3 mn H3 (Ex.refl _) _ fun p H4 hp e4 g4 => ⟨acc, e4 _ _ (e3 _ _ p3'), sz_lt (by omega), p1, (p2'.trans (e3.trans e4)).mut p1, _, upd_same, ?_⟩
    rw [List.length_append]
    show acc.length + 1 ≤ t + 1
    omega⟩⟩
end
end Bk
namespace Bk
open PySem PySem.Spec PyProof.Rows L2 Evl
/-! ### fe(e, ..), fe any expression whose value is one of some defs -/
def RunF (X : Cx) (E : XK) (f : Addr) (sp : Sp) : Prop := PySem.W.keepIn X.K (.ref f) = true ∧ ∀ (pins : List (Addr × Obj)) (σ : L2.St) (H : Hp) (s : Shared) (Q : VK) (us : List Value) (vs : List V), Inv X pins σ H s → Vals vs us → sp vs H Q E → wpAny (model X.prog X.w) X.A (call (.ref f) us) (EP X pins σ Q) X.xe s
def Runs (X : Cx) (E : XK) (fs : List (Addr × Sp)) : Prop := ∀ q ∈ fs, RunF X E q.1 q.2
def tCallE (fs : List (Addr × Sp)) (E : XK) (tf : TE) (t : TA) : TE := fun σ H Q => tf σ H fun v H1 => ∃ (f : Addr) (sp : Sp), v = .ref f ∧ (f, sp) ∈ fs ∧ t σ H1 fun vs H2 => sp vs H2 Q E
section
variable {X : Cx} {CX : CXT} {k : Nat} {f : Addr} {fd : FuncData} {ps : List Str} {sp : Sp} {E : XK} {fs : List (Addr × Sp)} {fe e : Expr} {es : List Expr} {tf : TE} {t : TA} {pos : Pos}
theorem runF (F : FnG X.prog X.w X.K X.mg X.base CX k f fd ps sp) (hr : Rm k X.A) (hk : PySem.W.keepIn X.K (.ref f) = true) (hb : Binds X.K fd ps []) (hx : Passes CX X E) : RunF X E f sp :=
  ⟨hk, fun pins σ H s Q us vs I r h => runG F hr hb .nil hx I r (by rw [List.append_nil]; exact h)⟩
theorem runs_nil : Runs X E [] := fun _ h => nomatch h
theorem runs_cons (h : RunF X E f sp) (r : Runs X E fs) : Runs X E ((f, sp) :: fs) := fun q m => (List.mem_cons.mp m).elim (fun z => z ▸ h) (r q)
theorem pe_callE (hf : PE X fe tf) (hfs : Runs X E fs) (ha : PA X (e :: es) t)
    (hst : starEach (e :: es) X.env = (false, eval e X.env) :: starEach es X.env := by rfl) (hpl : (backTo pos (starEach es X.env)).any (·.1) = false := by rfl)
    (he : eval (.Call fe (e :: es) [] pos) X.env = (do callWith pos (← eval fe X.env) [] (backTo pos (starEach (e :: es) X.env)) (backToKw pos (keywordEach [] X.env))) := by rfl) :
    PE X (.Call fe (e :: es) [] pos) (tCallE fs E tf t) := by
  refine ⟨fun pins s σ H Q I h => PyProof.Rows.Call_ (thn (hf.run pins s σ H _ I h) fun u s0 ⟨v, H0, I0, r0, f, sp, ev, m, q0⟩ => ?_) he⟩
  subst ev
  obtain rfl : u = Value.ref f := r0
  refine PySem.W.callWith_K (h₀ := X.base) I.ok.mod.kin (hfs _ m).1 (thn (ha.run pos pins s0 σ H0 _ I0 q0) fun us s1 ⟨vs, H1, I1, r1, q1⟩ => ⟨I1.kIn, ?_⟩) hst hpl
  exact (hfs _ m).2 pins σ H1 s1 Q us vs I1 r1 q1
end
section
variable {K : PySem.W.Frag} {σ : L2.St} {H : Hp} {tf : TE} {t : TA} {fs : List (Addr × Sp)} {E : XK} {f : Addr} {sp : Sp} {vs : List V} {Q : VK}
theorem callE (h : Ev tf σ H (.ref f)) (m : (f, sp) ∈ fs) (ha : ∀ H1, Ex H H1 → EvA t σ H1 vs) (hs : ∀ H1, Ex H H1 → sp vs H1 Q E) : tCallE fs E tf t σ H Q :=
  h H (Ex.refl H) _ fun H1 e1 => ⟨f, sp, rfl, m, ha H1 e1 H1 (Ex.refl H1) _ fun H2 e2 => hs H2 (e1.trans e2)⟩
end
end Bk
namespace Bk
open PySem PySem.Spec PyProof.Rows L2 Evl
/-! ### tuples joined and cut, empty and whole ones too: a tuple, new or not, with what is known of its items -/
theorem op_catAK {X : Cx} {K : PySem.W.Frag} (h : X.K = K) : OpR X (binaryOp .Add) (rCatA K) := by
  subst h
  exact op_catA
theorem sl_tupAK {X : Cx} {K : PySem.W.Frag} (h : X.K = K) : SlR X (rSlA K) := by
  subst h
  exact sl_tupA
def EvQP (K : PySem.W.Frag) (te : TE) (σ : L2.St) (H : Hp) (P : List V → Hp → Prop) : Prop := ∀ H1, Ex H H1 → ∀ Q : VK, (∀ p xs H2, Ex H1 H2 → SqT K H2 p xs → P xs H2 → Q (.ref p) H2) → te σ H1 Q
theorem cutV_whole {xs : List V} {lo hi : Option Int} (h : HT.sIx xs.length 0 lo = 0 ∧ HT.sIx xs.length xs.length hi = xs.length) : cutV xs lo hi = xs := by
  unfold cutV
  rw [h.1, h.2, List.drop_zero]
  exact List.take_of_length_le (by omega)
section
variable {K : PySem.W.Frag} {σ : L2.St} {H : Hp} {ta tb tc te tl : TE} {t : TT} {tr : TA} {P P1 P2 : List V → Hp → Prop} {PV : V → Hp → Prop} {D : Ends} {tz tu : TS} {sp : Sp} {E : XK}
theorem eqp_mono (h : EvQP K te σ H P) (m : ∀ xs H1, Ex H H1 → P xs H1 → P1 xs H1) : EvQP K te σ H P1 := fun H1 e Q q => h H1 e Q fun p xs H2 e2 g px => q p xs H2 e2 g (m xs H2 (e.trans e2) px)
theorem eqp_var {p : Addr} {xs : List V} (h : Ev te σ H (.ref p)) (g : SqT K H p xs) (px : ∀ H1, Ex H H1 → P xs H1) : EvQP K te σ H P := fun H1 e Q q => h H1 e _ fun H2 e2 => q p xs H2 e2 (ex_t (e.trans e2) g) (px H2 (e.trans e2))
theorem eqp_new {xs : List V} (h : EvU te σ H xs) (px : ∀ H1, Ex H H1 → P xs H1) : EvQP K te σ H P := fun H1 e Q q => h H1 e _ fun p H2 hp e2 g => q p xs H2 e2 (st_of g) (px H2 (e.trans e2))
theorem eqp_one (mono : ∀ v H1 H2, Ex H1 H2 → PV v H1 → PV v H2) (h : EvP te σ H PV) : EvQP K (tTup (tCons te tNil)) σ H (fun xs H1 => ∃ v, xs = [v] ∧ PV v H1) := fun H1 e Q q =>
  h H1 e _ fun v H2 e2 pv => ⟨sz_of (by show 1 ≤ 100000; decide), fun p hp => q p [v] _ (e2.trans (Ex.new hp)) (st_of upd_same) ⟨v, rfl, mono _ _ _ (Ex.new hp) pv⟩⟩
theorem eqp_cat (ha : EvQP K ta σ H P1) (hb : EvQP K tb σ H P2) (m1 : ∀ xs H1 H2, Ex H1 H2 → P1 xs H1 → P1 xs H2) (m2 : ∀ xs H1 H2, Ex H1 H2 → P2 xs H1 → P2 xs H2) (hz : ∀ xs ys H1, P1 xs H1 → P2 ys H1 → xs.length + ys.length ≤ 100000) :
    EvQP K (tOp (rCatA K) ta tb) σ H (fun zs H1 => ∃ xs ys, zs = xs ++ ys ∧ P1 xs H1 ∧ P2 ys H1) := fun H1 e Q q =>
  ha H1 e _ fun p xs H2 e2 g2 p1 => hb H2 (e.trans e2) _ fun r ys H3 e3 g3 p2 => by
    have p1' := m1 _ _ _ e3 p1
    refine ⟨p, r, xs, ys, rfl, rfl, ex_t e3 g2, g3, sz_of (hz xs ys H3 p1' p2), fun h0 => ?_, fun _ h1 => ?_, fun _ _ l hl => ?_⟩
    · exact q r (xs ++ ys) H3 (e2.trans e3) (by rw [h0]; exact g3) ⟨xs, ys, rfl, p1', p2⟩
    · exact q p (xs ++ ys) H3 (e2.trans e3) (by rw [h1, List.append_nil]; exact ex_t e3 g2) ⟨xs, ys, rfl, p1', p2⟩
    · exact q l (xs ++ ys) _ ((e2.trans e3).trans (Ex.new hl)) (st_of upd_same) ⟨xs, ys, rfl, m1 _ _ _ (Ex.new hl) p1', m2 _ _ _ (Ex.new hl) p2⟩
theorem eu_catA {p : Addr} {xs ys : List V} (ha : Ev ta σ H (.ref p)) (hb : EvU tb σ H ys) (h : SqT K H p xs) (h0 : xs ≠ []) (h1 : ys ≠ []) (hz : xs.length + ys.length ≤ 100000) : EvU (tOp (rCatA K) ta tb) σ H (xs ++ ys) := fun H1 e Q k =>
  ha H1 e _ fun H2 e2 => hb H2 (e.trans e2) _ fun r H3 hr e3 h3 => ⟨p, r, xs, ys, rfl, rfl, ex_t ((e.trans e2).trans e3) h, st_of h3, sz_of hz, fun c => (h0 c).elim, fun _ c => (h1 c).elim, fun _ _ l hl => k l _ (fresh_back (e2.trans e3) hl) ((e2.trans e3).trans (Ex.new hl)) upd_same⟩
theorem eqp_sl {to th : TO} {a : Addr} {xs : List V} {lo hi : Option Int} (h : Ev te σ H (.ref a)) (h1 : EvO to σ H lo) (h2 : EvO th σ H hi) (hs : SqT K H a xs) : EvQP K (tSl (rSlA K) te to th) σ H (fun ys _ => ys = cutV xs lo hi) := fun H1 e Q q =>
  h H1 e _ fun H2 e2 => h1 H2 (e.trans e2) _ fun H3 e3 => h2 H3 ((e.trans e2).trans e3) _ fun H4 e4 => by
    have e14 := (e2.trans e3).trans e4
    refine ⟨a, xs, rfl, ex_t (e.trans e14) hs, fun w => ?_, fun _ p hp => ?_⟩
    · exact q a xs H4 e14 (ex_t (e.trans e14) hs) (cutV_whole w).symm
    · exact q p _ _ (e14.trans (Ex.new hp)) (st_of upd_same) rfl
theorem ep_Q (h : EvQP K te σ H P) (k : ∀ p xs H1, Ex H H1 → SqT K H1 p xs → P xs H1 → PV (.ref p) H1) : EvP te σ H PV := fun H1 e Q q => h H1 e _ fun p xs H2 e2 g px => q (.ref p) H2 e2 (k p xs H2 (e.trans e2) g px)
/-- two new tuples to two names -/
theorem q_parUU {i j : Nat} {xs ys : List V} (h1 : EvU ta σ H xs) (h2 : ∀ p H1, H p = none → Ex H H1 → H1 p = some (.tup xs) → EvU tb σ H1 ys) (k : ∀ p q H1, H p = none → H q = none → Ex H H1 → H1 p = some (.tup xs) → H1 q = some (.tup ys) → tz D ((σ.set i (some (.ref p))).set j (some (.ref q))) H1) : tSeq (tPar i j (tCons ta (tCons tb tNil))) tz D σ H :=
  h1 H (Ex.refl H) _ fun p H2 hp e2 g2 => h2 p H2 hp e2 g2 H2 (Ex.refl H2) _ fun q H3 hq e3 g3 => ⟨_, _, rfl, k p q H3 hp (fresh_back e2 hq) (e2.trans e3) (e3 _ _ g2) g3⟩
/-- [e for x in new values if t], t never -/
theorem el_lcNone {n j : Nat} {ws : List Nat} (mono : ∀ v H1 H2, Ex H1 H2 → PV v H1 → PV v H2) (h : EvLP tl σ H (AllP PV n)) (hz : n ≤ 40000) (hw : ∀ x, wipe ((wipe σ ws).set j (some x)) ws = wipe σ ws) (ht : ∀ (x : V) H1, Ex H H1 → PV x H1 → EvT t ((wipe σ ws).set j (some x)) H1 false) : EvL (tLc (iList K tl) (gName j) t te ws) σ H [] := fun H0 e Q q =>
  h H0 e _ fun a xs H1 ha e1 hx ⟨hl, px⟩ => ⟨a, rfl, ⟨xs, sq_of hx⟩, fun Dl hD => lc_list (xs := xs) (fun _ H' => Ex H1 H' ∧ H' Dl = some (.lst [])) ⟨Ex.new hD, upd_same⟩ (fun i H' _ p => sq_of (p.1 a _ hx)) (fun i x H' hi p => ⟨hw x, ht x H' (e.trans (e1.trans p.1)) (mono _ _ _ p.1 (px x (List.mem_of_getElem? hi))) H' (Ex.refl H') _ fun H3 e3 => iteF ⟨p.1.trans e3, e3 _ _ p.2⟩⟩)
    (fun H' p => q Dl H' (fresh_back e1 hD) (e1.trans p.1) p.2)⟩
/-- a call in a test, a drawn list behind -/
theorem ev_call2P {x v : V} {y : V} (h1 : Ev ta σ H x) (h2 : EvP tb σ H PV) (h3 : ∀ H1, Ex H H1 → Ev tc σ H1 y) (hs : ∀ u H1, Ex H H1 → PV u H1 → ∀ H2, Ex H1 H2 → SpV sp [x, u, y] H2 v) : Ev (tCall sp [] E (tCons ta (tCons tb (tCons tc tNil)))) σ H v := fun H1 e Q q =>
  h1 H1 e _ fun H2 e2 => h2 H2 (e.trans e2) _ fun u H3 e3 pu => h3 H3 ((e.trans e2).trans e3) H3 (Ex.refl H3) _ fun H4 e4 => hs u H3 ((e.trans e2).trans e3) pu H4 e4 H4 (Ex.refl H4) Q (fun H5 e5 => q H5 (((e2.trans e3).trans e4).trans e5)) E
theorem ev_call3P {x v : V} {y : V} (h1 : Ev ta σ H x) (h2 : Ev tb σ H y) (h3 : EvP tc σ H PV) (hs : ∀ u H1, Ex H H1 → PV u H1 → SpV sp [x, y, u] H1 v) : Ev (tCall sp [] E (tCons ta (tCons tb (tCons tc tNil)))) σ H v := fun H1 e Q q =>
  h1 H1 e _ fun H2 e2 => h2 H2 (e.trans e2) _ fun H3 e3 => h3 H3 ((e.trans e2).trans e3) _ fun u H4 e4 pu => hs u H4 (((e.trans e2).trans e3).trans e4) pu H4 (Ex.refl H4) Q (fun H5 e5 => q H5 (((e2.trans e3).trans e4).trans e5)) E
end
end Bk
namespace PySem.HandSPX
open PySem
section
variable {M : Model} {A : Around} {E : Value → Shared → Prop} {h : Heap} {g : Array GenState} {d : Drawn} {t : Nat} {os : OsState}
variable {nm q : Str} {C N : Addr} {bs bm bmB : List Value} {hdct : Bool} {sn : List Str} {sub : List Value} {ab : Bool} {col : Option Bool} {dd : Option Addr} {k0 k1 k2 k3 k5 : Option Value} {B newId initId : String}
theorem check_new_ownK (F : ExcBaseFacts B newId initId bmB) (hT : ∀ X : String, bm.contains (.type X) = bmB.contains (.type X)) {rest : List Value} {kw : List (Str × Value)} {Q : Unit → Shared → Prop}
    (hC : h.get? C = some (excClassObj nm q C N bs bm hdct sn sub ab col dd k0 k1 k2 k3 k5 newId)) (hq : Q () ⟨h, g, d, t, os⟩) : wpAny M A (checkBuiltinCall newId ⟨.ref C :: rest, kw⟩) Q E ⟨h, g, d, t, os⟩ := by
  have hcont : (Value.ref C :: bm).contains (.type B) = true := by rw [List.contains_cons, hT, F.hasB, Bool.or_true]
  have hstar := F.noStar
  simp only [checkBuiltinCall, F.newKind, F.newSplit, F.newRow]
  repeat (first | refine wpAny_loadPart_at hC ?_ | (refine wpAny_isSubtype_exc hC ?_; rw [hcont]) | refine wpAny_staticBase_exc hC ?_ | refine wpAny_madeBy_exc hC ?_ | simp only [bne_self_eq_false, Bool.false_eq_true, if_false] | wp_step)
  exact hq
end
section
variable {prog : Program} {w : World} {A : Around} {E : Value → Shared → Prop} {R : Result → Shared → Prop} {h : Heap} {g : Array GenState} {d : Drawn} {t : Nat} {os : OsState}
variable {nm q : Str} {C N : Addr} {bs bm bmB : List Value} {hdct : Bool} {sn : List Str} {sub : List Value} {ab : Bool} {col : Option Bool} {dd : Option Addr} {k0 k1 k2 k3 k5 : Option Value} {B newId initId : String}
theorem new_ownK (F : ExcBaseFacts B newId initId bmB) (hT : ∀ X : String, bm.contains (.type X) = bmB.contains (.type X)) {rest : List Value} {kw : List (Str × Value)}
    (hC : h.get? C = some (excClassObj nm q C N bs bm hdct sn sub ab col dd k0 k1 k2 k3 k5 newId))
    (hq : R (.ok (.ret (.ref (h.objs.size + 1)))) ⟨(h.push { cls := .type "tuple", data := .seq rest.toArray }).push
      { cls := .ref C, data := .fields #[.ref h.objs.size, .none, .none, .none, .bool false, .none] }, g, d, t, os⟩) (hrest : rest.length ≤ sizeLine) :
    codeAny (model prog w) A (.builtin newId ⟨.ref C :: rest, kw⟩) R ⟨h, g, d, t, os⟩ := by
  have hends := F.ends
  have hcB : (Value.ref C :: bm).contains (.type B) = true := by rw [List.contains_cons, hT, F.hasB, Bool.or_true]
  have hcA : (Value.ref C :: bm).contains (.type "AttributeError") = false := by rw [List.contains_cons, hT, F.noAttr]; rfl
  have hcN : (Value.ref C :: bm).contains (.type "NameError") = false := by rw [List.contains_cons, hT, F.noName]; rfl
  refine codeAny_builtinAt F.entry ?_
  unfold Builtin.«BaseException.__new__»
  refine wpAt_bind ?_
  show wpAt _ _ _ (stack >>= _) _ _ _
  refine wpAt_bind (wpAt_stack fun p below => wpAt_of_wpAny ?_)
  wp_walk
  refine wpAt_of_wpAny ?_
  rw [F.owner]
  repeat (first | with_reducible refine wpAny_madeHere_exc F.canon hC ?_ | with_reducible refine wpAny_loadPart_at hC ?_ | (with_reducible refine wpAny_isSubtype_exc hC ?_; first | rw [hcB] | rw [hcA] | rw [hcN]) | wp_step)
  show R _ _
  rw [Heap.size_push]
  exact hq
theorem type_call_ownK (F : ExcBaseFacts B newId initId bmB) (hT : ∀ X : String, bm.contains (.type X) = bmB.contains (.type X)) {rest : List Value} {kw : List (Str × Value)} {fI : Addr} {Q : Fin → Shared → Prop}
    (hC : h.get? C = some (excClassObj nm q C N bs bm hdct sn sub ab col dd k0 k1 k2 k3 k5 newId))
    (hi : W.Looks (model prog w) h (typeLookup (.ref C) "__init__") (some (.ref fI))) (hb : ∀ self, W.Looks (model prog w) h (bindSpecial (.ref fI) self) (.ref fI, [self])) (hrest : rest.length ≤ sizeLine)
    (hq : codeAny (model prog w) A (.call (.ref fI) ⟨.ref (h.objs.size + 1) :: rest, kw⟩)
      (fun r s' => match r with | .ok (.ret v) => v = .none ∧ Q (.done (.ret (.ref (h.objs.size + 1)))) s' | .ok _ => False | .error e => E e s')
      ⟨(h.push (W.kdv_tup rest)).push (excO C h.objs.size), g, d, t, os⟩) :
    wpAny (model prog w) A (Builtin.«type.__call__» ⟨.ref C :: rest, kw⟩) Q E ⟨h, g, d, t, os⟩ := by
  repeat (first | with_reducible refine wpAny_loadPart_at hC ?_ | with_reducible refine wpAny_madeBy_exc hC ?_ | wp_step)
  refine codeAny_call_builtin_code (Code.quiet_builtin _ F.quiet) (check_new_ownK F hT hC ?_)
  refine new_ownK F hT hC ?_ hrest
  show wpAny _ _ _ _ _ _
  have k : ∀ b o, h.get? b = some o → ((h.push (W.kdv_tup rest)).push (excO C h.objs.size)).get? b = some o := fun b o e => Heap.get?_push_of_some _ (Heap.get?_push_of_some _ e)
  have hC₁ := k _ _ hC
  have hget : ((h.push (W.kdv_tup rest)).push (excO C h.objs.size)).get? (h.objs.size + 1) = some (excO C h.objs.size) := by heap_get
  have hcC : (Value.ref C :: bm).contains (.ref C) = true := by simp
  have i1 := hi.keeps k
  have b1 := (hb (.ref (h.objs.size + 1))).keeps k
  unfold isInstance
  repeat (first | with_reducible refine wpAny_loadPart_at hget ?_ | (with_reducible refine wpAny_isSubtype_exc hC₁ ?_; rw [hcC]) | wp_step)
  show wpAny _ _ (typeLookup (.ref C) _) _ _ _
  refine i1.at ?_
  refine wpAny_holding (wpAny_bind (b1.at ?_))
  refine wpAny_bind (wpAny_call (codeAny_mono hq fun r s' z => ?_))
  rcases r with e | (v | _ | _ | _) <;> first | exact z | exact z.elim | skip
  obtain ⟨rfl, z⟩ := z
  first
    | exact wpAny_pure (wpAny_pure z)
    | (wp_walk; exact z)
theorem call_ownK (F : ExcBaseFacts B newId initId bmB) (hT : ∀ X : String, bm.contains (.type X) = bmB.contains (.type X)) {rest : List Value} {kw : List (Str × Value)} {fI : Addr}
    (hC : h.get? C = some (excClassObj nm q C N bs bm hdct sn sub ab col dd k0 k1 k2 k3 k5 newId))
    (hi : W.Looks (model prog w) h (typeLookup (.ref C) "__init__") (some (.ref fI))) (hb : ∀ self, W.Looks (model prog w) h (bindSpecial (.ref fI) self) (.ref fI, [self])) (hrest : rest.length ≤ sizeLine)
    (hq : codeAny (model prog w) (A.under (.builtin "type.__call__" ⟨.ref C :: rest, kw⟩)) (.call (.ref fI) ⟨.ref (h.objs.size + 1) :: rest, kw⟩) (W.InitBack (h.objs.size + 1) R)
      ⟨(h.push (W.kdv_tup rest)).push (excO C h.objs.size), g, d, t, os⟩) :
    codeAny (model prog w) A (.call (.ref C) ⟨rest, kw⟩) R ⟨h, g, d, t, os⟩ := by
  have f1 := tc_lookup
  have f2 := tc_bind (.ref C)
  have hTy : (⟨h, g, d, t, os⟩ : Shared).TypeIs (.ref C) "type" := ⟨_, hC, rfl⟩
  refine codeAny_of_tree ?_
  show wpAny _ _ (callAny (.ref C) _) _ _ _
  repeat (any_goals (first | assumption | with_reducible refine wpAny_loadPart_at hC ?_ | wp_step))
  refine ⟨rfl, ?_⟩
  refine codeAny_call_builtin_at (Code.quiet_builtin _ (by decide +kernel)) entry_typeCall (wpAny_check_type_call_sub hC (type_call_ownK F hT hC hi hb hrest ?_))
  refine codeAny_mono hq fun r s' z => ?_
  rcases r with e | (v | _ | _ | _) <;> exact z
end
end PySem.HandSPX
namespace Bk
open PySem PySem.Spec PyProof.Rows L2 Evl
section
variable {X : Cx} {C fI : Addr} {fd : FuncData} {f x : Str} {st : Stmt} {e : Expr} {te : TE} {p pos : Pos} {kws : List Keyword}
/-- C(f = e) of an own error class with an __init__(self, f) -/
theorem pmk_oexK {CX : CXT} {k : Nat} {sp : Sp} (T : OexC X.K C) (iC : PySem.W.findIn X.K (.ref C) "__init__" = some (some (.ref fI))) (tI : PySem.W.typeIn X.K (.ref fI) = some (.type "function"))
    (F1 : FnOk X.prog X.w X.K X.mg X.base CX k fI fd ["self", f] sp) (hr : Room (k + 1) X.A) (hb : ∀ (s : Shared) (u v : Value), X.K.In s.heap → BindsTo s fd ⟨[u], [(f, v)]⟩ [(("self" : Str), u), (f, v)]) (hx : Passes CX X (fun _ _ _ => False)) (hg : Gl X x) (hm : X.mg x = some (.ref C)) (hkw : PK X kws (tCons te tNil))
    (hks : (backToKw pos (keywordEach kws X.env)).filterMap (·.1) = [f] := by rfl) (hall : (backToKw pos (keywordEach kws X.env)).all (·.1.isSome) = true := by rfl)
    (hdb : (x == ("__debug__" : Str)) = false := by decide) (hpl : ((backTo pos (starEach [] X.env)).any (·.1) || (backToKw pos (keywordEach kws X.env)).any (·.1.isNone)) = false := by rfl) :
    PMk X (.Call (.Name x p) [] kws pos) (tMkO C sp [] (tCons te tNil)) := by
  intro pins s σ H Q I h
  obtain ⟨nm, q, N, bs, bm, sn, sub, ab, col, dd, k0, k1, k2, k3, k5, hC, hbm⟩ := T.cls
  refine wpAny_Call_Name_kw (ld_glob I hg hm ?_ hdb)
  refine PySem.W.callWith_KW0 (h₀ := X.base) I.ok.mod.kin T.kC hall (thn (hkw.run pos pins s σ H _ I h) fun us s1 ⟨vs, H1, I1, r1, hz, q1⟩ => ⟨I1.kIn, ?_⟩) hpl
  rw [hks]
  obtain ⟨hp, g, dr, tk, os⟩ := s1
  have hsz : hp.objs.size ≤ hp.objs.size + 1 := Nat.le_succ _
  have hn : H1 (hp.objs.size + 1) = none := I1.hok.fresh hsz
  have hq := q1 (hp.objs.size + 1) hn
  have kk : ∀ b o, hp.get? b = some o → ((hp.push (PySem.W.kdv_tup [])).push (PySem.HandSPX.excO C hp.objs.size)).get? b = some o := fun b o e => Heap.get?_push_of_some _ (Heap.get?_push_of_some _ e)
  have hget : ((hp.push (PySem.W.kdv_tup [])).push (PySem.HandSPX.excO C hp.objs.size)).get? (hp.objs.size + 1) = some (PySem.HandSPX.excO C hp.objs.size) := by heap_get
  have I2 : Inv X pins σ (upd H1 (hp.objs.size + 1) (exo (hp.objs.size + 1) C none)) ⟨(hp.push (PySem.W.kdv_tup [])).push (PySem.HandSPX.excO C hp.objs.size), g, dr, tk, os⟩ :=
    I1.laid (t' := tk) (a := hp.objs.size + 1) (o := exo (hp.objs.size + 1) C none) (h' := (hp.push (PySem.W.kdv_tup [])).push (PySem.HandSPX.excO C hp.objs.size)) kk hsz (exo_ok hget)
  have r2 : Vals (V.ref (hp.objs.size + 1) :: (vs ++ [])) (Value.ref (hp.objs.size + 1) :: us) := .cons rfl (by rw [List.append_nil]; exact r1)
  have hl : (Value.ref (hp.objs.size + 1) :: us).length = (["self", f] : List Str).length := by
    have e := r2.length
    rw [F1.len _ _ _ _ hq] at e
    exact e.symm
  obtain ⟨u, rfl⟩ : ∃ u, us = [u] := by
    match us, hl with
    | [u], _ => exact ⟨u, rfl⟩
  refine wpAny_call (PySem.HandSPX.call_ownK (kw := [(f, u)]) F.excBase_ValueError (fun Y => PySem.HandSPX.refsVE_contains Y bm hbm) (I1.kIn _ _ hC) (PySem.W.looks_findIn I1.kIn iC) (fun self => PySem.W.bind_fn I1.kIn self tI) (Nat.zero_le _)
    (codeAny_mono (F1.run _ X.stack _ _ ⟨[Value.ref (hp.objs.size + 1)], [(f, u)]⟩ [Value.ref (hp.objs.size + 1), u] _ _ (fun _ _ _ => False) (hr.make C [] [(f, u)]) (I2.env0.make C [] [(f, u)]) (hb _ _ _ I2.kIn) r2 hq) fun r s' hq' => ?_))
  cases r with
  | error er => exact hx pins σ _ _ er s' I2 hq'
  | ok fl =>
    cases fl with
    | ret u =>
      obtain ⟨v, H2, os2, bare2, un2, hok2, rv, ev, d, fs, ea, ed, hd1, q2⟩ := hq'
      subst ev
      obtain ⟨h2, g2, d2, t2, os'⟩ := s'
      exact ⟨rv, mk_end (raises_own T.exC T.tyC) I1 hsz kk un2 hok2 os2 bare2 ea ed hd1 q2⟩
    | next => exact False.elim hq'
    | brk => exact False.elim hq'
    | cont => exact False.elim hq'
theorem pmk_supK (S : SupC X.prog X.K X.mg C fI fd f st) (hb : ∀ (s : Shared) (u v : Value), X.K.In s.heap → BindsTo s fd ⟨[u], [(f, v)]⟩ [(("self" : Str), u), (f, v)]) (hr : Room 2 X.A) (hg : Gl X x) (hm : X.mg x = some (.ref C)) (hkw : PK X kws (tCons te tNil))
    (hks : (backToKw pos (keywordEach kws X.env)).filterMap (·.1) = [f] := by rfl) (hall : (backToKw pos (keywordEach kws X.env)).all (·.1.isSome) = true := by rfl)
    (hdb : (x == ("__debug__" : Str)) = false := by decide) (hpl : ((backTo pos (starEach [] X.env)).any (·.1) || (backToKw pos (keywordEach kws X.env)).any (·.1.isNone)) = false := by rfl) :
    PMk X (.Call (.Name x p) [] kws pos) (tMkO C (sp_sup C f) [] (tCons te tNil)) :=
  pmk_oexK (CX := CX0) (k := 1) S.ox S.iC S.tI (sup_ok S) hr hb (fun _ _ _ _ _ _ _ z => z.elim) hg hm hkw hks hall hdb hpl
end
/-! ### repr of any data, texts too -/
def rReprA (K : PySem.W.Frag) : List V → Hp → VK → Prop := fun xs H Q => ∃ (x : V) (d : PyData), xs = [x] ∧ Dp K H x d ∧ Sho d ∧ Q (.str d.shown) H
theorem call_reprA {X : Cx} {K : PySem.W.Frag} (hK : X.K = K) (hg : X.A.guards = some []) (hu : X.A.units + 64 < cLine) : CallR X (.builtin "repr") (rReprA K) := by
  intro pins s σ H xs us Q I r h
  obtain ⟨x, d, rfl, hd, hs, q⟩ := h
  by_cases no : ∀ y, d ≠ .str y
  · exact call_reprX hK hg hu pins s σ H _ us Q I r ⟨x, d, rfl, hd, hs, no, q⟩
  · obtain ⟨y, rfl⟩ : ∃ y, d = .str y := Classical.byContradiction fun z => no fun y e => z ⟨y, e⟩
    obtain ⟨u, rfl, ru⟩ := vals1 r
    cases hd
    obtain ⟨t, rfl⟩ := ru
    exact PySem.P.repr_of_str ⟨.str _, H, I.tok _, ⟨_, rfl⟩, q⟩ hs.2.2.2
theorem ev_reprA {K : PySem.W.Frag} {σ : L2.St} {H : Hp} {te : TE} {d : PyData} (h : EvD K te σ H d) (hs : Sho d) : Ev (tCB (rReprA K) (tCons te tNil)) σ H (.str d.shown) := fun H1 e Q q =>
  h H1 e _ fun v H2 e2 hd => ⟨v, d, rfl, hd, hs, q H2 e2⟩
/-- raise C(values), C an own error class without __init__ -/
theorem mk_own {C : Addr} {σ : L2.St} {H : Hp} {t : TA} {vs : List V} {Q : XK} (h : EvA t σ H vs) (l : vs.length ≤ 1000) (q : ∀ H1, Ex H H1 → Q (.ref C) none H1) : (fun σ H (Q : XK) => t σ H fun vs H1 => vs.length ≤ sizeLine ∧ Q (.ref C) none H1) σ H Q := h H (Ex.refl H) _ fun H1 e1 => ⟨sz_of (by omega), q H1 e1⟩
/-- what is known of a class and others -/
def Subs (K : PySem.W.Frag) (d : Addr) : List (Addr × Bool) → Prop
  | [] => True
  | (c, b) :: r => PySem.W.subIn K (.ref d) (.ref c) = some b ∧ Subs K d r
end Bk
/-! enumerate(zip(a, b), start=k) of two lists: the tuple that the zip gave out may be there still, or not -/
namespace PySem
open Sem (wp)
abbrev IsZ (h : Heap) (z TI TO : Addr) (f0 : Value) (f : Bool) : Prop :=
  h.get? z = some { cls := .type "zip", dict := none, data := .fields #[f0, .bool f, .bool false, .ref TI, .ref TO], slots := #[] }
section
variable {prog : Program} {w : World} {A : Around} {E : Value → Shared → Prop} {s : Shared}
theorem dead_load {a : Addr} {Q : Option Obj → Shared → Prop} (ho : s.heap.get? a = none) (h : Q none s) : wpAny (model prog w) A (loadIfAlive a) Q E s := by
  have h' : Q (s.heap.get? a) s := by rw [ho]; exact h
  exact fun _ _ _ => h'
/-- nothing was given out, or it has gone -/
def ZGone (h : Heap) (f0 : Value) : Prop := f0 = .none ∨ ∃ T : Addr, f0 = rawInt T ∧ h.get? T = none
theorem z_free {z TI TO : Addr} {f0 : Value} {f : Bool} {Q : Bool → Shared → Prop} (hz : IsZ s.heap z TI TO f0 f) (hg : ZGone s.heap f0) (h : Q true s) : wpAny (model prog w) A (Builtin.SmallTypes.ownedTupleIsFree (.ref z)) Q E s := by
  unfold Builtin.SmallTypes.ownedTupleIsFree
  rcases hg with rfl | ⟨T, rfl, hT⟩
  · exact wpAny_bind (wpAny_field hz rfl (x := .none) rfl (wpAny_pure h))
  · refine wpAny_bind (wpAny_field hz rfl (x := rawInt T) rfl ?_)
    show wpAny _ _ (loadIfAlive ((T : Int).toNat) >>= _) _ _ _
    rw [Int.toNat_natCast]
    refine wpAny_bind (dead_load hT ?_)
    simp only [Option.isNone_none, if_true]
    exact wpAny_pure h
theorem zg_next_item {z TI TO i1 i2 l1 l2 : Addr} {k1 k2 : Nat} {xs ys : Array Value} {x y a b f0 : Value} {f : Bool} {Q : Value → Shared → Prop} (D : ZipApart z TI TO i1 i2 l1 l2)
    (hz : IsZ s.heap z TI TO f0 f) (hg : ZGone s.heap f0) (hTI : IsPair s.heap TI (.ref i1) (.ref i2)) (hTO : IsPair s.heap TO a b)
    (h1 : s.heap.IsListIter i1 l1 k1) (h2 : s.heap.IsListIter i2 l2 k2) (hl1 : s.heap.IsList l1 xs) (hl2 : s.heap.IsList l2 ys) (hx : xs[k1]? = some x) (hy : ys[k2]? = some y)
    (hQ : ∀ h', IsZ h' z TI TO (rawInt s.heap.objs.size) false → IsPair h' TO x y → h'.IsListIter i1 l1 (k1 + 1) → h'.IsListIter i2 l2 (k2 + 1) → IsPair h' s.heap.objs.size x y → h'.objs.size = s.heap.objs.size + 1 →
      (∀ c o, c ≠ z → c ≠ TO → c ≠ i1 → c ≠ i2 → s.heap.get? c = some o → h'.get? c = some o) → Q (.ref s.heap.objs.size) { s with heap := h' }) :
    wpAny (model prog w) A (Builtin.«zip.__next__» ⟨[.ref z], []⟩) (fun fin s' => ∃ v, fin = .done (.ret v) ∧ Q v s') E s := by
  show wpAny _ _ (field (.ref z) 2 >>= _) _ _ _
  refine wpAny_bind (wpAny_field hz rfl (x := .bool false) rfl ?_)
  show wpAny _ _ (field (.ref z) 3 >>= _) _ _ _
  refine wpAny_bind (wpAny_field hz rfl (x := .ref TI) rfl ?_)
  refine wpAny_bind (wpAny_seqItems hTI rfl ?_)
  show wpAny _ _ (Builtin.SmallTypes.ownedTupleIsFree (.ref z) >>= _) _ _ _
  refine wpAny_bind (z_free hz hg ?_)
  simp only [if_true]
  refine wpAny_bind (wpAny_rule ?_)
  refine wpAny_bind (wpAny_field hz rfl (x := .ref TO) rfl ?_)
  refine wpAny_bind (wpAny_setField_rec hz (by simp) fun h₁ hz₁ hs₁ => ?_)
  replace hz₁ : IsZ h₁ z TI TO .ellipsis f := hz₁
  refine wpAny_bind ?_
  simp only [List.zipIdx_cons, List.zipIdx_nil, List.forIn_cons, List.forIn_nil]
  refine wpAny_bind (wpAny_bind (wpAny_onRaise ?_))
  show wpAny _ _ (Builtin.SmallTypes.nextOf (.ref i1) >>= _) _ _ _
  refine wpAny_bind (wpAny_nextOf_list_item (h1.extBut hs₁.extBut D.i1z) (hl1.extBut hs₁.extBut D.l1z) hx fun h₂ h1₂ hs₂ => wpAny_pure ?_)
  have hTO₂ : IsPair h₂ TO a b := hs₂.extBut _ _ D.TOi1 (hs₁.extBut _ _ D.TOz hTO)
  refine wpAny_bind (wpAny_seqItems hTO₂ rfl ?_)
  refine wpAny_bind (wpAny_updateSeq_pair hTO₂ fun h₃ hTO₃ hs₃ => ?_)
  replace hTO₃ : IsPair h₃ TO x b := hTO₃
  refine wpAny_bind (wpAny_letGo (wpAny_pure ?_))
  refine wpAny_bind (wpAny_bind (wpAny_onRaise ?_))
  show wpAny _ _ (Builtin.SmallTypes.nextOf (.ref i2) >>= _) _ _ _
  refine wpAny_bind (wpAny_nextOf_list_item (((h2.extBut hs₁.extBut D.i2z).extBut hs₂.extBut D.i12.symm).extBut hs₃.extBut D.TOi2.symm)
    (((hl2.extBut hs₁.extBut D.l2z).extBut hs₂.extBut D.l2i1).extBut hs₃.extBut D.l2TO) hy fun h₄ h2₄ hs₄ => wpAny_pure ?_)
  have hTO₄ : IsPair h₄ TO x b := hs₄.extBut _ _ D.TOi2 hTO₃
  refine wpAny_bind (wpAny_seqItems hTO₄ rfl ?_)
  refine wpAny_bind (wpAny_updateSeq_pair hTO₄ fun h₅ hTO₅ hs₅ => ?_)
  replace hTO₅ : IsPair h₅ TO x y := hTO₅
  refine wpAny_bind (wpAny_letGo (wpAny_pure (wpAny_pure ?_)))
  refine wpAny_bind (wpAny_seqItems hTO₅ rfl ?_)
  refine wpAny_bind (wpAny_newTuple ?_)
  have hsz : h₅.objs.size = s.heap.objs.size := by rw [hs₅.1, hs₄.1, hs₃.1, hs₂.1, hs₁.1]
  have hz₅ : IsZ h₅ z TI TO .ellipsis f := hs₅.extBut _ _ D.TOz.symm (hs₄.extBut _ _ D.i2z.symm (hs₃.extBut _ _ D.TOz.symm (hs₂.extBut _ _ D.i1z.symm hz₁)))
  have hk₅ : ∀ c o, c ≠ z → c ≠ TO → c ≠ i1 → c ≠ i2 → s.heap.get? c = some o → h₅.get? c = some o := fun c o c1 c2 c3 c4 e =>
    hs₅.extBut _ _ c2 (hs₄.extBut _ _ c4 (hs₃.extBut _ _ c2 (hs₂.extBut _ _ c3 (hs₁.extBut _ _ c1 e))))
  have h1₅ : h₅.IsListIter i1 l1 (k1 + 1) := ((h1₂.extBut hs₃.extBut D.TOi1.symm).extBut hs₄.extBut D.i12).extBut hs₅.extBut D.TOi1.symm
  have h2₅ : h₅.IsListIter i2 l2 (k2 + 1) := h2₄.extBut hs₅.extBut D.TOi2.symm
  have hzlt : z < h₅.objs.size := Heap.lt_size hz₅
  show wpAny _ _ (Builtin.SmallTypes.ownedTupleHandOut (.ref z) (.ref h₅.objs.size) >>= _) _ _ _
  refine wpAny_bind ?_
  unfold Builtin.SmallTypes.ownedTupleHandOut
  have hz₆ : IsZ (h₅.push { cls := .type "tuple", data := .seq #[x, y] }) z TI TO .ellipsis f := Heap.get?_push_of_some _ hz₅
  refine wpAny_bind (wpAny_setField_rec hz₆ (by simp) fun h₇ hz₇ hs₇ => ?_)
  replace hz₇ : IsZ h₇ z TI TO (rawInt h₅.objs.size) f := hz₇
  refine wpAny_setField_rec hz₇ (by simp) fun h₈ hz₈ hs₈ => ?_
  replace hz₈ : IsZ h₈ z TI TO (rawInt h₅.objs.size) false := hz₈
  have up : ∀ c o, c ≠ z → h₅.get? c = some o → h₈.get? c = some o := fun c o c1 e => hs₈.extBut _ _ c1 (hs₇.extBut _ _ c1 (Heap.get?_push_of_some _ e))
  have hT₈ : IsPair h₈ h₅.objs.size x y := hs₈.extBut _ _ (Nat.ne_of_gt hzlt) (hs₇.extBut _ _ (Nat.ne_of_gt hzlt) (Heap.get?_push_size _ rfl))
  have hz8 : h₈.objs.size = h₅.objs.size + 1 := by rw [hs₈.1, hs₇.1, Heap.size_push]
  rw [hsz] at hz₈ hT₈ hz8
  refine wpAny_pure ⟨_, rfl, ?_⟩
  show Q (.ref h₅.objs.size) _
  rw [hsz]
  exact hQ h₈ hz₈ (up _ _ D.TOz hTO₅) (h1₅.at fun o e => up _ o D.i1z e) (h2₅.at fun o e => up _ o D.i2z e) hT₈ hz8 fun c o c1 c2 c3 c4 e => up c o c1 (hk₅ c o c1 c2 c3 c4 e)
theorem zg_next_end {z TI TO i1 i2 l1 l2 : Addr} {k1 k2 : Nat} {xs ys : Array Value} {a b f0 : Value} {f : Bool} {Q : Fin → Shared → Prop} (hh : A.handled = none) (D : ZipApart z TI TO i1 i2 l1 l2)
    (hz : IsZ s.heap z TI TO f0 f) (hg : ZGone s.heap f0) (hTI : IsPair s.heap TI (.ref i1) (.ref i2)) (hTO : IsPair s.heap TO a b)
    (h1 : s.heap.IsListIter i1 l1 k1) (h2 : s.heap.IsListIter i2 l2 k2) (hl1 : s.heap.IsList l1 xs) (hl2 : s.heap.IsList l2 ys) (hend : xs[k1]? = none ∨ ys[k2]? = none)
    (hE : ∀ h' e, (∀ c o, c ≠ z → c ≠ TO → c ≠ i1 → c ≠ i2 → s.heap.get? c = some o → h'.get? c = some o) → (∃ o, h'.get? e = some o ∧ o.cls = .type "StopIteration") → E (.ref e) { s with heap := h' }) :
    wpAny (model prog w) A (Builtin.«zip.__next__» ⟨[.ref z], []⟩) Q E s := by
  show wpAny _ _ (field (.ref z) 2 >>= _) _ _ _
  refine wpAny_bind (wpAny_field hz rfl (x := .bool false) rfl ?_)
  show wpAny _ _ (field (.ref z) 3 >>= _) _ _ _
  refine wpAny_bind (wpAny_field hz rfl (x := .ref TI) rfl ?_)
  refine wpAny_bind (wpAny_seqItems hTI rfl ?_)
  show wpAny _ _ (Builtin.SmallTypes.ownedTupleIsFree (.ref z) >>= _) _ _ _
  refine wpAny_bind (z_free hz hg ?_)
  simp only [if_true]
  refine wpAny_bind (wpAny_rule ?_)
  refine wpAny_bind (wpAny_field hz rfl (x := .ref TO) rfl ?_)
  refine wpAny_bind (wpAny_setField_rec hz (by simp) fun h₁ hz₁ hs₁ => ?_)
  replace hz₁ : IsZ h₁ z TI TO .ellipsis f := hz₁
  refine wpAny_bind ?_
  simp only [List.zipIdx_cons, List.zipIdx_nil, List.forIn_cons, List.forIn_nil]
  refine wpAny_bind (wpAny_bind (wpAny_onRaise ?_))
  show wpAny _ _ (Builtin.SmallTypes.nextOf (.ref i1) >>= _) _ _ _
  cases hx : xs[k1]? with
  | none =>
    refine wpAny_bind (wpAny_nextOf_list_end hh (h1.extBut hs₁.extBut D.i1z) (hl1.extBut hs₁.extBut D.l1z) hx fun h₂ e hs₂ he => ?_)
    obtain ⟨oe, hoe, hce⟩ := he
    have hz₂ : IsZ h₂ z TI TO .ellipsis f := hs₂ _ _ D.i1z.symm hz₁
    have hez : e ≠ z := fun x => by subst x; rw [hz₂] at hoe; cases hoe; simp at hce
    refine wpAny_setField_rec hz₂ (by simp) fun h₃ _ hs₃ => hE h₃ e (fun c o c1 _ c3 _ x => hs₃.extBut _ _ c1 (hs₂ _ _ c3 (hs₁.extBut _ _ c1 x))) ⟨oe, hs₃.extBut _ _ hez hoe, hce⟩
  | some x =>
    have hy : ys[k2]? = none := by rcases hend with h | h; rw [hx] at h; cases h; exact h
    refine wpAny_bind (wpAny_nextOf_list_item (h1.extBut hs₁.extBut D.i1z) (hl1.extBut hs₁.extBut D.l1z) hx fun h₂ h1₂ hs₂ => wpAny_pure ?_)
    have hTO₂ : IsPair h₂ TO a b := hs₂.extBut _ _ D.TOi1 (hs₁.extBut _ _ D.TOz hTO)
    refine wpAny_bind (wpAny_seqItems hTO₂ rfl ?_)
    refine wpAny_bind (wpAny_updateSeq_pair hTO₂ fun h₃ hTO₃ hs₃ => ?_)
    refine wpAny_bind (wpAny_letGo (wpAny_pure ?_))
    refine wpAny_bind (wpAny_bind (wpAny_onRaise ?_))
    show wpAny _ _ (Builtin.SmallTypes.nextOf (.ref i2) >>= _) _ _ _
    refine wpAny_bind (wpAny_nextOf_list_end hh (((h2.extBut hs₁.extBut D.i2z).extBut hs₂.extBut D.i12.symm).extBut hs₃.extBut D.TOi2.symm)
      (((hl2.extBut hs₁.extBut D.l2z).extBut hs₂.extBut D.l2i1).extBut hs₃.extBut D.l2TO) hy fun h₄ e hs₄ he => ?_)
    obtain ⟨oe, hoe, hce⟩ := he
    have hz₄ : IsZ h₄ z TI TO .ellipsis f := hs₄ _ _ D.i2z.symm (hs₃.extBut _ _ D.TOz.symm (hs₂.extBut _ _ D.i1z.symm hz₁))
    have hez : e ≠ z := fun x => by subst x; rw [hz₄] at hoe; cases hoe; simp at hce
    refine wpAny_setField_rec hz₄ (by simp) fun h₅ _ hs₅ => hE h₅ e (fun c o c1 c2 c3 c4 x => hs₅.extBut _ _ c1 (hs₄ _ _ c4 (hs₃.extBut _ _ c2 (hs₂.extBut _ _ c3 (hs₁.extBut _ _ c1 x))))) ⟨oe, hs₅.extBut _ _ hez hoe, hce⟩
/-- the cells of a zip of two lists that stands at k -/
def ZAt (h : Heap) (z TI TO i1 i2 l1 l2 : Addr) (k : Nat) : Prop := (∃ (f0 : Value) (f : Bool), IsZ h z TI TO f0 f ∧ (f0 = .none ∨ ∃ T : Addr, f0 = rawInt T)) ∧ IsPair h TI (.ref i1) (.ref i2) ∧ (∃ a b, IsPair h TO a b) ∧ h.IsListIter i1 l1 k ∧ h.IsListIter i2 l2 k
/-- a turn of the zip, whatever became of the tuple before -/
theorem zip_any_item {z TI TO i1 i2 l1 l2 : Addr} {k : Nat} {xs ys : Array Value} {x y : Value} {Q : Value → Shared → Prop} (D : ZipApart z TI TO i1 i2 l1 l2)
    (hz : ZAt s.heap z TI TO i1 i2 l1 l2 k) (hl1 : s.heap.IsList l1 xs) (hl2 : s.heap.IsList l2 ys) (hx : xs[k]? = some x) (hy : ys[k]? = some y)
    (hQ : ∀ h', ZAt h' z TI TO i1 i2 l1 l2 (k + 1) → IsPair h' s.heap.objs.size x y → h'.objs.size = s.heap.objs.size + 1 →
      (∀ c o, c ≠ z → c ≠ TO → c ≠ i1 → c ≠ i2 → s.heap.get? c = some o → h'.get? c = some o) → Q (.ref s.heap.objs.size) { s with heap := h' }) :
    wpAny (model prog w) A (Builtin.«zip.__next__» ⟨[.ref z], []⟩) (fun fin s' => ∃ v, fin = .done (.ret v) ∧ Q v s') E s := by
  obtain ⟨⟨f0, f, hz, hf⟩, hTI, ⟨a, b, hTO⟩, h1, h2⟩ := hz
  have free : ZGone s.heap f0 → wpAny (model prog w) A (Builtin.«zip.__next__» ⟨[.ref z], []⟩) (fun fin s' => ∃ v, fin = .done (.ret v) ∧ Q v s') E s := fun hg =>
    zg_next_item D hz hg hTI hTO h1 h2 hl1 hl2 hx hy fun h' a1 a2 a3 a4 a5 a6 a7 => hQ h' ⟨⟨_, _, a1, .inr ⟨_, rfl⟩⟩, a7 _ _ D.TIz D.TITO D.TIi1 D.TIi2 hTI, ⟨_, _, a2⟩, a3, a4⟩ a5 a6 a7
  rcases hf with rfl | ⟨T, rfl⟩
  · exact free (.inl rfl)
  · cases hT : s.heap.get? T with
    | none => exact free (.inr ⟨T, rfl, hT⟩)
    | some oT =>
      exact zip_next_item_held D hz hT hTI h1 h2 hl1 hl2 hx hy fun h' a1 a2 a3 a4 a5 a6 => hQ h' ⟨⟨_, _, a1, .inr ⟨_, rfl⟩⟩, a6 _ _ D.TIz D.TIi1 D.TIi2 hTI, ⟨_, _, a6 _ _ D.TOz D.TOi1 D.TOi2 hTO⟩, a2, a3⟩ a4 a5 fun c o c1 _ c3 c4 e => a6 c o c1 c3 c4 e
theorem zip_any_end {z TI TO i1 i2 l1 l2 : Addr} {k : Nat} {xs ys : Array Value} {Q : Fin → Shared → Prop} (hh : A.handled = none) (D : ZipApart z TI TO i1 i2 l1 l2)
    (hz : ZAt s.heap z TI TO i1 i2 l1 l2 k) (hl1 : s.heap.IsList l1 xs) (hl2 : s.heap.IsList l2 ys) (hend : xs[k]? = none ∨ ys[k]? = none)
    (hE : ∀ h' e, (∀ c o, c ≠ z → c ≠ TO → c ≠ i1 → c ≠ i2 → s.heap.get? c = some o → h'.get? c = some o) → (∃ o, h'.get? e = some o ∧ o.cls = .type "StopIteration") → E (.ref e) { s with heap := h' }) :
    wpAny (model prog w) A (Builtin.«zip.__next__» ⟨[.ref z], []⟩) Q E s := by
  obtain ⟨⟨f0, f, hz, hf⟩, hTI, ⟨a, b, hTO⟩, h1, h2⟩ := hz
  rcases hf with rfl | ⟨T, rfl⟩
  · exact zg_next_end hh D hz (.inl rfl) hTI hTO h1 h2 hl1 hl2 hend hE
  · cases hT : s.heap.get? T with
    | none => exact zg_next_end hh D hz (.inr ⟨T, rfl, hT⟩) hTI hTO h1 h2 hl1 hl2 hend hE
    | some oT => exact zip_next_end_held hh D hz hT hTI h1 h2 hl1 hl2 hend fun h' e k' => hE h' e fun c o c1 _ c3 c4 x => k' c o c1 c3 c4 x
theorem ZAt.isz {h : Heap} {z TI TO i1 i2 l1 l2 : Addr} {k : Nat} (a : ZAt h z TI TO i1 i2 l1 l2 k) : ∃ o, h.get? z = some o ∧ o.cls = .type "zip" := by
  obtain ⟨⟨f0, f, hz, _⟩, _⟩ := a
  exact ⟨_, hz, rfl⟩
theorem ZAt.at {h h' : Heap} {z TI TO i1 i2 l1 l2 : Addr} {k : Nat} (a : ZAt h z TI TO i1 i2 l1 l2 k) (e : ∀ b ∈ [z, TI, TO, i1, i2], ∀ o, h.get? b = some o → h'.get? b = some o) : ZAt h' z TI TO i1 i2 l1 l2 k := by
  obtain ⟨⟨f0, f, hz, hf⟩, hTI, ⟨x, y, hTO⟩, h1, h2⟩ := a
  exact ⟨⟨f0, f, e z (by simp) _ hz, hf⟩, e TI (by simp) _ hTI, ⟨x, y, e TO (by simp) _ hTO⟩, h1.at fun o q => e i1 (by simp) o q, h2.at fun o q => e i2 (by simp) o q⟩
theorem nextOf_zip_item {z TI TO i1 i2 l1 l2 : Addr} {k : Nat} {xs ys : Array Value} {x y : Value} {Q : Value → Shared → Prop} (D : ZipApart z TI TO i1 i2 l1 l2)
    (hz : ZAt s.heap z TI TO i1 i2 l1 l2 k) (hl1 : s.heap.IsList l1 xs) (hl2 : s.heap.IsList l2 ys) (hx : xs[k]? = some x) (hy : ys[k]? = some y)
    (hQ : ∀ h', ZAt h' z TI TO i1 i2 l1 l2 (k + 1) → IsPair h' s.heap.objs.size x y → h'.objs.size = s.heap.objs.size + 1 →
      (∀ c o, c ≠ z → c ≠ TO → c ≠ i1 → c ≠ i2 → s.heap.get? c = some o → h'.get? c = some o) → Q (.ref s.heap.objs.size) { s with heap := h' }) :
    wpAny (model prog w) A (Builtin.SmallTypes.nextOf (.ref z)) Q E s := by
  have hT : s.TypeIs (.ref z) "zip" := hz.isz
  unfold Builtin.SmallTypes.nextOf
  exact wpAny_bind (wpAny_callSpecial?_slot (name := Str.ofString "__next__") hT F.slot_zip_next
    (wpAny_call_entry F.slot_zip_next hT F.entry_zip_next (zip_any_item D hz hl1 hl2 hx hy fun h1 a b c d => wpAny_pure (hQ h1 a b c d)) (F.args_zip_next_1 _)))
theorem nextOf_zip_end {z TI TO i1 i2 l1 l2 : Addr} {k : Nat} {xs ys : Array Value} {Q : Value → Shared → Prop} (hh : A.handled = none) (D : ZipApart z TI TO i1 i2 l1 l2)
    (hz : ZAt s.heap z TI TO i1 i2 l1 l2 k) (hl1 : s.heap.IsList l1 xs) (hl2 : s.heap.IsList l2 ys) (hend : xs[k]? = none ∨ ys[k]? = none)
    (hE : ∀ h' e, (∀ c o, c ≠ z → c ≠ TO → c ≠ i1 → c ≠ i2 → s.heap.get? c = some o → h'.get? c = some o) → (∃ o, h'.get? e = some o ∧ o.cls = .type "StopIteration") → E (.ref e) { s with heap := h' }) :
    wpAny (model prog w) A (Builtin.SmallTypes.nextOf (.ref z)) Q E s := by
  have hT : s.TypeIs (.ref z) "zip" := hz.isz
  unfold Builtin.SmallTypes.nextOf
  exact wpAny_bind (wpAny_callSpecial?_slot (name := Str.ofString "__next__") hT F.slot_zip_next
    (wpAny_call_entry F.slot_zip_next hT F.entry_zip_next (zip_any_end hh D hz hl1 hl2 hend hE) (F.args_zip_next_1 _)))
theorem enumZ_next_item {e z TI TO i1 i2 l1 l2 : Addr} {k : Nat} {c : Int} {xs ys : Array Value} {x y old : Value} {Q : Value → Shared → Prop} (D : ZipApart z TI TO i1 i2 l1 l2)
    (he : IsEnum s.heap e z c old) (hz : ZAt s.heap z TI TO i1 i2 l1 l2 k) (hl1 : s.heap.IsList l1 xs) (hl2 : s.heap.IsList l2 ys) (hx : xs[k]? = some x) (hy : ys[k]? = some y) (hne : e ∉ [z, TI, TO, i1, i2])
    (hQ : ∀ h' tk, IsEnumOut h' e z (c + 1) (.ref s.heap.objs.size) (s.heap.objs.size + 1) → ZAt h' z TI TO i1 i2 l1 l2 (k + 1) → IsPair h' s.heap.objs.size x y →
      h'.get? (s.heap.objs.size + 1) = some { cls := .type "tuple", data := .seq #[.int c tk, .ref s.heap.objs.size] } → h'.objs.size = s.heap.objs.size + 2 →
      (∀ b o, b ≠ e → b ≠ z → b ≠ TO → b ≠ i1 → b ≠ i2 → s.heap.get? b = some o → h'.get? b = some o) → Q (.ref (s.heap.objs.size + 1)) { s with heap := h', toks := tk + 1 }) :
    wpAny (model prog w) A (Builtin.«enumerate.__next__» ⟨[.ref e], []⟩) (fun fin s' => ∃ v, fin = .done (.ret v) ∧ Q v s') E s := by
  obtain ⟨hp, g, d, tk, os⟩ := s
  have ne1 : ∀ b ∈ [z, TI, TO, i1, i2], b ≠ e := fun b hb q => hne (q ▸ hb)
  show wpAny _ _ (field (.ref e) 2 >>= _) _ _ _
  refine wpAny_bind (wpAny_field he rfl (x := .ref z) rfl ?_)
  refine wpAny_bind (nextOf_zip_item (s := ⟨hp, g, d, tk, os⟩) D hz hl1 hl2 hx hy fun h₁ hz₁ hp₁ hs₁ hk₁ => ?_)
  replace hs₁ : h₁.objs.size = hp.objs.size + 1 := hs₁
  replace hk₁ : ∀ c o, c ≠ z → c ≠ TO → c ≠ i1 → c ≠ i2 → hp.get? c = some o → h₁.get? c = some o := hk₁
  replace hp₁ : IsPair h₁ hp.objs.size x y := hp₁
  have he₁ : IsEnum h₁ e z c old := hk₁ _ _ (fun q => ne1 z (by simp) q.symm) (fun q => ne1 TO (by simp) q.symm) (fun q => ne1 i1 (by simp) q.symm) (fun q => ne1 i2 (by simp) q.symm) he
  have hel : e < hp.objs.size := Heap.lt_size he
  show wpAny _ _ (field (.ref e) 3 >>= _) _ _ ⟨h₁, g, d, tk, os⟩
  refine wpAny_bind (wpAny_field he₁ rfl (x := rawInt c) rfl ?_)
  show wpAny _ _ (field (.ref e) 4 >>= _) _ _ ⟨h₁, g, d, tk, os⟩
  refine wpAny_bind (wpAny_field he₁ rfl (x := .none) rfl ?_)
  show wpAny _ _ (mkInt c >>= _) _ _ ⟨h₁, g, d, tk, os⟩
  refine wpAny_bind (wpAny_mkInt ?_)
  show wpAny _ _ (setField (.ref e) 3 (rawInt (c + 1)) >>= _) _ _ ⟨h₁, g, d, tk + 1, os⟩
  refine wpAny_bind (wpAny_setField_rec he₁ (by simp) fun h₂ he₂ hs₂ => ?_)
  replace hs₂ : Heap.SameBut e h₁ h₂ := hs₂
  replace he₂ : IsEnum h₂ e z (c + 1) old := he₂
  show wpAny _ _ (setField (.ref e) 4 .none >>= _) _ _ ⟨h₂, g, d, tk + 1, os⟩
  refine wpAny_bind (wpAny_setField_rec he₂ (by simp) fun h₃ he₃ hs₃ => ?_)
  replace hs₃ : Heap.SameBut e h₂ h₃ := hs₃
  replace he₃ : IsEnum h₃ e z (c + 1) old := he₃
  show wpAny _ _ (newTuple [.int c tk, .ref hp.objs.size] >>= _) _ _ ⟨h₃, g, d, tk + 1, os⟩
  refine wpAny_bind (wpAny_newTuple ?_)
  have he₄ : IsEnum (h₃.push { cls := .type "tuple", data := .seq #[.int c tk, .ref hp.objs.size] }) e z (c + 1) old := Heap.get?_push_of_some _ he₃
  generalize hh₄ : h₃.push { cls := .type "tuple", data := .seq #[.int c tk, .ref hp.objs.size] } = h₄ at he₄
  have hsz : h₃.objs.size = hp.objs.size + 1 := by rw [hs₃.1, hs₂.1, hs₁]
  have ht₄ : h₄.get? (hp.objs.size + 1) = some { cls := .type "tuple", data := .seq #[.int c tk, .ref hp.objs.size] } := by rw [← hh₄, ← hsz]; exact Heap.get?_push_size _ rfl
  have hz₄ : h₄.objs.size = hp.objs.size + 2 := by rw [← hh₄, Heap.size_push, hsz]
  have hk₄ : ∀ b o, b ≠ e → h₁.get? b = some o → h₄.get? b = some o := fun b o hbe hb => by
    rw [← hh₄]
    exact Heap.get?_push_of_some _ (hs₃.extBut b o hbe (hs₂.extBut b o hbe hb))
  show wpAny _ _ (Builtin.SmallTypes.ownedTupleIsFree (.ref e) >>= _) _ _ ⟨h₄, g, d, tk + 1, os⟩
  rw [hsz]
  clear hh₄ he₃ hs₃ he₂ hs₂ hsz h₃ h₂
  refine wpAny_bind ?_
  · unfold Builtin.SmallTypes.ownedTupleIsFree
    refine wpAny_bind (wpAny_field he₄ rfl (x := .none) rfl (wpAny_pure ?_))
    simp only [if_true]
    refine wpAny_bind (wpAny_rule ?_)
    refine wpAny_bind (wpAny_field he₄ rfl (x := old) rfl ?_)
    refine wpAny_bind (wpAny_setField_rec he₄ (by simp) fun h₅ he₅ hs₅ => ?_)
    replace hs₅ : Heap.SameBut e h₄ h₅ := hs₅
    replace he₅ : IsEnum h₅ e z (c + 1) (.ref hp.objs.size) := he₅
    show wpAny _ _ (Builtin.SmallTypes.ownedTupleHandOut (.ref e) (.ref (hp.objs.size + 1)) >>= _) _ _ ⟨h₅, g, d, tk + 1, os⟩
    refine wpAny_bind ?_
    · unfold Builtin.SmallTypes.ownedTupleHandOut
      refine wpAny_bind (wpAny_setField_rec he₅ (by simp) fun h₆ he₆ hs₆ => ?_)
      replace hs₆ : Heap.SameBut e h₅ h₆ := hs₆
      replace he₆ : IsEnumOut h₆ e z (c + 1) (.ref hp.objs.size) (hp.objs.size + 1) := he₆
      refine wpAny_setField_rec he₆ (by simp) fun h₇ he₇ hs₇ => ?_
      replace hs₇ : Heap.SameBut e h₆ h₇ := hs₇
      replace he₇ : IsEnumOut h₇ e z (c + 1) (.ref hp.objs.size) (hp.objs.size + 1) := he₇
      have hk₇ : ∀ b o, b ≠ e → h₄.get? b = some o → h₇.get? b = some o := fun b o hbe q => hs₇.extBut b o hbe (hs₆.extBut b o hbe (hs₅.extBut b o hbe q))
      refine wpAny_bind (wpAny_letGo (wpAny_pure ⟨_, rfl, hQ h₇ tk he₇ ?_ ?_ ?_ ?_ ?_⟩))
      · exact hz₁.at fun b hb o q => hk₇ b o (ne1 b hb) (hk₄ b o (ne1 b hb) q)
      · exact hk₇ _ _ (Nat.ne_of_gt hel) (hk₄ _ _ (Nat.ne_of_gt hel) hp₁)
      · exact hk₇ _ _ (fun q => absurd hel (by rw [← q]; exact Nat.not_lt.mpr (Nat.le_succ _))) ht₄
      · rw [hs₇.1, hs₆.1, hs₅.1, hz₄]
      · exact fun b o h1 h2 h3 h4 h5 q => hk₇ b o h1 (hk₄ b o h1 (hk₁ b o h2 h3 h4 h5 q))
theorem pyNext_enumZ_item {e z TI TO i1 i2 l1 l2 : Addr} {k : Nat} {c : Int} {xs ys : Array Value} {x y old : Value} {Q : Option Value → Shared → Prop} (D : ZipApart z TI TO i1 i2 l1 l2)
    (he : IsEnum s.heap e z c old) (hz : ZAt s.heap z TI TO i1 i2 l1 l2 k) (hl1 : s.heap.IsList l1 xs) (hl2 : s.heap.IsList l2 ys) (hx : xs[k]? = some x) (hy : ys[k]? = some y) (hne : e ∉ [z, TI, TO, i1, i2])
    (hQ : ∀ h' tk, IsEnumOut h' e z (c + 1) (.ref s.heap.objs.size) (s.heap.objs.size + 1) → ZAt h' z TI TO i1 i2 l1 l2 (k + 1) → IsPair h' s.heap.objs.size x y →
      h'.get? (s.heap.objs.size + 1) = some { cls := .type "tuple", data := .seq #[.int c tk, .ref s.heap.objs.size] } → h'.objs.size = s.heap.objs.size + 2 →
      (∀ b o, b ≠ e → b ≠ z → b ≠ TO → b ≠ i1 → b ≠ i2 → s.heap.get? b = some o → h'.get? b = some o) → Q (some (.ref (s.heap.objs.size + 1))) { s with heap := h', toks := tk + 1 }) :
    wpAny (model prog w) A (pyNext (.ref e)) Q E s := by
  have hT : s.TypeIs (.ref e) "enumerate" := ⟨_, he, rfl⟩
  unfold pyNext
  exact wpAny_bind (wpAny_attempt (wpAny_callSpecial?_slot (name := Str.ofString "__next__") hT F.slot_enumerate_next
    (wpAny_call_entry F.slot_enumerate_next hT F.entry_enumerate_next
      (enumZ_next_item D he hz hl1 hl2 hx hy hne fun h' tk a b c d k q => wpAny_pure (hQ h' tk a b c d k q)) (F.args_enumerate_next_1 _))))
theorem pyNext_enumZ_end {e z TI TO i1 i2 l1 l2 : Addr} {k : Nat} {c : Int} {xs ys : Array Value} {old : Value} {Q : Option Value → Shared → Prop} (hh : A.handled = none) (D : ZipApart z TI TO i1 i2 l1 l2)
    (he : IsEnum s.heap e z c old) (hz : ZAt s.heap z TI TO i1 i2 l1 l2 k) (hl1 : s.heap.IsList l1 xs) (hl2 : s.heap.IsList l2 ys) (hend : xs[k]? = none ∨ ys[k]? = none)
    (hQ : ∀ h', (∀ c o, c ≠ z → c ≠ TO → c ≠ i1 → c ≠ i2 → s.heap.get? c = some o → h'.get? c = some o) → Q none { s with heap := h' }) : wpAny (model prog w) A (pyNext (.ref e)) Q E s := by
  have hT : s.TypeIs (.ref e) "enumerate" := ⟨_, he, rfl⟩
  unfold pyNext
  refine wpAny_bind (wpAny_attempt (wpAny_callSpecial?_slot (name := Str.ofString "__next__") hT F.slot_enumerate_next
    (wpAny_call_entry F.slot_enumerate_next hT F.entry_enumerate_next ?_ (F.args_enumerate_next_1 _))))
  show wpAny _ _ (field (.ref e) 2 >>= _) _ _ _
  refine wpAny_bind (wpAny_field he rfl (x := .ref z) rfl ?_)
  refine wpAny_bind (nextOf_zip_end (by exact hh) D hz hl1 hl2 hend fun h' x hk hx' => ?_)
  obtain ⟨o, ho, hc⟩ := hx'
  refine wpAny_bind (wpAny_isInstance (T := "StopIteration") (b := true) ⟨o, ho, hc⟩ isSubtype_stop ?_)
  exact wpAny_pure (hQ _ hk)
end
end PySem

namespace PySem
open Sem (wp)
/-! the enumerate of a zip is made -/
namespace F
end F
set_option maxHeartbeats 4000000 in
theorem meets_enumerate_newZ {z TI TO : Addr} {f0 : Value} (k : Int) (t : Tok) (hfit : Builtin.SmallTypes.fitsIndex k = true) :
    Meets (Builtin.«enumerate.__new__» ⟨[.type "enumerate", .ref z], [(Str.ofString "start", .int k t)]⟩) (fun _ R s => IsZip s.heap z TI TO f0 ∧
      R (.ok (.ret (.ref s.heap.objs.size))) { s with heap := s.heap.push { cls := .type "enumerate", data := .fields #[.none, .bool false, .ref z, rawInt k, .none, .none] } }) :=
  .of_wp fun prog w A R s h => by
    obtain ⟨hp, g, d, tk, os⟩ := s; obtain ⟨h1, h⟩ := h
    have hsub := sub_enumerate
    have hnf : (!Builtin.SmallTypes.fitsIndex k) = false := by rw [hfit]; rfl
    have q1 : ∀ {A' : Around} {E : Value → Shared → Prop} {Q : Value → Shared → Prop}, Q (.ref z) ⟨hp, g, d, tk, os⟩ → wpAny (model prog w) A' (pyIter (.ref z)) Q E ⟨hp, g, d, tk, os⟩ :=
      fun q => wpAny_pyIter_zip (s := ⟨hp, g, d, tk, os⟩) h1 q
    have e1 : (Str.ofString "start" == ("start" : Str)) = true := by decide +kernel
    have e2 : (Str.ofString "start" != ("start" : Str)) = false := by decide +kernel
    have e3 : (Str.ofString "start" != ("iterable" : Str)) = true := by decide +kernel
    have e4 : (("start" : Str) == Str.ofString "start") = true := by decide +kernel
    have e5 : (("iterable" : Str) == Str.ofString "start") = false := by decide +kernel
    wp_walk using q1
    refine wpAny_stack_any fun st => wpAny_pure ?_
    split
    · rename_i c _ _ _ _ _
      cases (c == Value.type "enumerate")
      · wp_walk using q1
        exact ⟨_, rfl, h⟩
      · wp_walk using q1
        exact ⟨_, rfl, h⟩
    · wp_walk using q1
      exact ⟨_, rfl, h⟩
section
variable {prog : Program} {w : World} {A : Around} {E : Value → Shared → Prop} {s : Shared}
theorem enumZ_begins {z TI TO : Addr} {f0 : Value} {k : Int} {t : Tok} {Q : Value → Shared → Prop} (h1 : IsZip s.heap z TI TO f0) (hk0 : -(2 ^ 63) ≤ k) (hk1 : k < 2 ^ 63)
    (h : ∀ h', IsEnum h' s.heap.objs.size z k .none → h'.objs.size = s.heap.objs.size + 1 → (∀ b o, s.heap.get? b = some o → h'.get? b = some o) → Q (.ref s.heap.objs.size) { s with heap := h' }) :
    wpAny (model prog w) A (call (.type "enumerate") [.ref z] [(Str.ofString "start", .int k t)]) Q E s := by
  refine callType_newKw F.called_enumerate (by decide) (F.typeCall_enumerate_start _ _) (F.newCall_enumerate_start _ _) (fun obj => F.args_object_init_start obj _ _) F.entry_enumerate_new
    (meets_enumerate_newZ k t (fits_start hk0 hk1)) ⟨h1, ?_⟩
  show _ ∧ _
  have he : IsEnum (s.heap.push { cls := .type "enumerate", data := .fields #[.none, .bool false, .ref z, rawInt k, .none, .none] }) s.heap.objs.size z k .none := Heap.get?_push_size _ rfl
  exact ⟨⟨_, he, rfl⟩, h _ he (Heap.size_push ..) fun b o x => Heap.get?_push_of_some _ x⟩
end
end PySem
namespace Bk
open PySem PySem.Spec PyProof.Rows L2
/-- the lists at a and b, the items in new pairs, each in a new pair with its number, from c on -/
def Itez (K : PySem.W.Frag) (a b : Addr) (c : Int) : It :=
  ⟨fun i H => ∃ (xs ys : List V) (x y : V), SqL K H a xs ∧ SqL K H b ys ∧ xs[i]? = some x ∧ ys[i]? = some y,
   fun i H v H' => ∃ T P x y, v = .ref P ∧ H T = none ∧ H P = none ∧ P ≠ T ∧ H' = upd (upd H T (.tup [x, y])) P (.tup [.int (c + (i : Nat)), .ref T]) ∧ (∀ xs, SqL K H a xs → xs[i]? = some x) ∧ ∀ ys, SqL K H b ys → ys[i]? = some y,
   fun i H => ∃ xs ys : List V, SqL K H a xs ∧ SqL K H b ys ∧ (xs.length ≤ i ∨ ys.length ≤ i)⟩
theorem turn_enumZ {P : Program} {w : World} {K : PySem.W.Frag} {elts : List Expr} {kk : Nat} {tpos : Pos} {a b e z TI TO i1 i2 : Addr} (c : Int) (D : ZipApart z TI TO i1 i2 a b) (hne : e ∉ [z, TI, TO, i1, i2]) :
    Turn P w K (.Tuple elts kk tpos) (Itez K a b c) [e, z, TI, TO, i1, i2] e (fun i h => (∃ old, IsEnum h e z (c + ((i : Nat) : Int)) old) ∧ ZAt h z TI TO i1 i2 a b i) where
  mem := by simp
  obj := by
    intro i h st d hd
    obtain ⟨⟨old, he⟩, ⟨f0, f, hz, _⟩, hTI, ⟨x, y, hTO⟩, ⟨o1, e1, _, d1⟩, ⟨o2, e2, _, d2⟩⟩ := st
    have e' : d = e ∨ d = z ∨ d = TI ∨ d = TO ∨ d = i1 ∨ d = i2 := by simpa using hd
    rcases e' with q | q | q | q | q | q
    · rw [q]; exact ⟨_, he, fun v q => nomatch q⟩
    · rw [q]; exact ⟨_, hz, fun v q => nomatch q⟩
    · rw [q]; exact ⟨_, hTI, fun v q => nomatch q⟩
    · rw [q]; exact ⟨_, hTO, fun v q => nomatch q⟩
    · rw [q]; exact ⟨o1, e1, fun v q => by rw [d1] at q; cases q⟩
    · rw [q]; exact ⟨o2, e2, fun v q => by rw [d2] at q; cases q⟩
  keep := by
    intro i h h' st k
    obtain ⟨⟨old, he⟩, hz⟩ := st
    exact ⟨⟨old, k e (by simp) _ he⟩, hz.at fun b hb o q => k b (List.mem_cons_of_mem _ hb) o q⟩
  item := by
    intro X hP hw hK hc i pins s σ H E I hf st hg
    subst hP hw hK
    obtain ⟨⟨old, he⟩, hz⟩ := st
    obtain ⟨xs, ys, x, y, hqx, hqy, hx, hy⟩ := hg
    obtain ⟨its, rv, p, _⟩ := I.list hqx
    obtain ⟨its2, rv2, p2, _⟩ := I.list hqy
    obtain ⟨u, hu, ru⟩ := rv.get hx
    obtain ⟨u2, hu2, ru2⟩ := rv2.get hy
    have lt : ∀ d ∈ [e, z, TI, TO, i1, i2], d < s.heap.objs.size := by
      intro d hd
      have e' : d = e ∨ d = z ∨ d = TI ∨ d = TO ∨ d = i1 ∨ d = i2 := by simpa using hd
      obtain ⟨⟨f0, f, hz, _⟩, hTI, ⟨x, y, hTO⟩, ⟨o1, e1, _⟩, ⟨o2, e2, _⟩⟩ := hz
      rcases e' with q | q | q | q | q | q
      · rw [q]; exact Heap.lt_size he
      · rw [q]; exact Heap.lt_size hz
      · rw [q]; exact Heap.lt_size hTI
      · rw [q]; exact Heap.lt_size hTO
      · rw [q]; exact Heap.lt_size e1
      · rw [q]; exact Heap.lt_size e2
    refine pyNext_enumZ_item D he hz p.isList p2.isList (x := u) (y := u2) (by simpa using hu) (by simpa using hu2) hne fun h' tk ho z' hT hPr hsz hk => ?_
    refine ⟨_, rfl, wpAny_letOwnedTupleGo_enum (s := { s with heap := h', toks := tk + 1 }) ho fun h'' he' sb => ?_⟩
    replace sb : Heap.SameBut e h' h'' := sb
    have hel := lt e (by simp)
    have hT2 : h''.get? s.heap.objs.size = some { cls := .type "tuple", data := .seq #[u, u2] } := (sb.2 _ (Nat.ne_of_gt hel)).trans hT
    have hP2 : h''.get? (s.heap.objs.size + 1) = some { cls := .type "tuple", data := .seq #[.int (c + (i : Nat)) tk, .ref s.heap.objs.size] } := (sb.2 _ (Nat.ne_of_gt (Nat.lt_succ_of_lt hel))).trans hPr
    have gT : (s.heap.push { cls := .type "tuple", data := .seq #[u, u2] }).get? s.heap.objs.size = some { cls := .type "tuple", data := .seq #[u, u2] } := Heap.get?_push_size _ rfl
    have newT : ObjOk X.prog X.w (upd H s.heap.objs.size (.tup [x, y])) (s.heap.push { cls := .type "tuple", data := .seq #[u, u2] }) s.heap.objs.size (.tup [x, y]) :=
      ⟨by show 2 ≤ sizeLine; decide, [u, u2], .cons ru (.cons ru2 .nil), ⟨_, gT, rfl, _, rfl⟩⟩
    have I1 : Inv X pins σ (upd H s.heap.objs.size (.tup [x, y])) { s with heap := s.heap.push { cls := .type "tuple", data := .seq #[u, u2] }, toks := s.toks } :=
      I.turnedNew (t' := s.toks) (ch := []) (fun b o _ q => Heap.get?_push_of_some _ q) (fun b hb => nomatch hb) (Nat.le_refl _) newT
    have hf1 : ∀ d ∈ [e, z, TI, TO, i1, i2], FpOk X pins (upd H s.heap.objs.size (.tup [x, y])) d := fun d hd => by
      obtain ⟨f0, f1⟩ := hf d hd
      exact ⟨by rw [upd_ne (Nat.ne_of_lt (lt d hd))]; exact f0, f1⟩
    have newP : ObjOk X.prog X.w (upd (upd H s.heap.objs.size (.tup [x, y])) (s.heap.objs.size + 1) (.tup [.int (c + (i : Nat)), .ref s.heap.objs.size])) h'' (s.heap.objs.size + 1) (.tup [.int (c + (i : Nat)), .ref s.heap.objs.size]) :=
      ⟨by show 2 ≤ sizeLine; decide, [.int (c + (i : Nat)) tk, .ref s.heap.objs.size], .cons ⟨_, rfl⟩ (.cons rfl .nil), ⟨_, hP2, rfl, _, rfl⟩⟩
    have I2 := I1.turnedNew (t' := tk + 1) (h' := h'') (T := s.heap.objs.size + 1) (ch := [e, z, TI, TO, i1, i2]) (fun d o hd q => by
      by_cases hdT : d = s.heap.objs.size
      · rw [hdT] at q ⊢
        rw [gT] at q
        cases q
        exact hT2
      · have q' : s.heap.get? d = some o := by
          rw [← q]
          exact (Heap.get?_push_ne _ _ _ hdT).symm
        exact (sb.2 d (fun z => hd (by simp [z]))).trans (hk d o (fun z => hd (by simp [z])) (fun z => hd (by simp [z])) (fun z => hd (by simp [z])) (fun z => hd (by simp [z])) (fun z => hd (by simp [z])) q')) hf1 (by show (s.heap.push _).objs.size ≤ _; rw [Heap.size_push]; exact Nat.le_refl _) newP
    refine ⟨.ref (s.heap.objs.size + 1), _, I2, rfl, ⟨_, _, x, y, rfl, I.hok.fresh (Nat.le_refl _), I.hok.fresh (Nat.le_succ _), Nat.succ_ne_self _, rfl, fun l hl => by rw [I.list_inj hl hqx]; exact hx, fun l hl => by rw [I.list_inj hl hqy]; exact hy⟩, ⟨⟨.ref s.heap.objs.size, ?_⟩, ?_⟩, fun d hd => ?_⟩
    · have e1 : c + ((i + 1 : Nat) : Int) = c + (i : Int) + 1 := by omega
      rw [e1]
      exact he'
    · exact z'.at fun b hb o q => (sb.2 b (fun z => hne (z ▸ hb))).trans q
    · rw [upd_ne (Nat.ne_of_lt (Nat.lt_succ_of_lt (lt d hd))), upd_ne (Nat.ne_of_lt (lt d hd))]
      exact (hf d hd).1
  done := by
    intro X hP hw hK hc i pins s σ H E I hf st hg
    subst hP hw hK
    obtain ⟨⟨old, he⟩, hz⟩ := st
    obtain ⟨xs, ys, hqx, hqy, hend⟩ := hg
    obtain ⟨its, rv, p, _⟩ := I.list hqx
    obtain ⟨its2, rv2, p2, _⟩ := I.list hqy
    have l1 := rv.length
    have l2 := rv2.length
    have he' : its.toArray[i]? = none ∨ its2.toArray[i]? = none := by
      rcases hend with q | q
      · exact .inl (by simp; omega)
      · exact .inr (by simp; omega)
    exact pyNext_enumZ_end (I.ok.hd hc) D he hz p.isList p2.isList he' fun h' hk => ⟨rfl, I.turnedL (t' := s.toks) (ch := [e, z, TI, TO, i1, i2]) (fun d o hb q =>
      hk d o (fun q' => hb (by simp [q'])) (fun q' => hb (by simp [q'])) (fun q' => hb (by simp [q'])) (fun q' => hb (by simp [q'])) q) hf⟩
  self := fun A i s Q E st h => by
    obtain ⟨⟨_, he⟩, _⟩ := st
    exact wpAny_pyIter_enum he h

def iEnumZ (K : PySem.W.Frag) (ta : TA) (c : Int) : TI := fun σ H R => ta σ H fun vs H1 => ∃ a b xs ys, vs = [.ref a, .ref b] ∧ SqL K H1 a xs ∧ SqL K H1 b ys ∧ R (Itez K a b c) H1
theorem pi_enumZ {X : Cx} {e e2 : Expr} {ta : TA} {p pz qz pos tpos kpos cpos : Pos} {elts : List Expr} {kk j : Nat} {c : Int} (hg : Gl X "enumerate") (hm : X.mg "enumerate" = none) (hgz : Gl X "zip") (hmz : X.mg "zip" = none) (ha : PA X [e, e2] ta)
    (hs : starEach [Expr.Call (.Name "zip" pz) [e, e2] [] qz] X.env = (false, eval (.Call (.Name "zip" pz) [e, e2] [] qz) X.env) :: starEach [] X.env := by rfl) (hs2 : starEach [e, e2] X.env = (false, eval e X.env) :: starEach [e2] X.env := by rfl) (h0 : -(2 ^ 63) ≤ c := by decide) (h1 : c < 2 ^ 63 := by decide)
    (hall : (backToKw pos (keywordEach [⟨some "start", .Constant (.int c) j cpos, kpos⟩] X.env)).all (·.1.isSome) = true := by rfl)
    (hks : (backToKw pos (keywordEach [⟨some "start", .Constant (.int c) j cpos, kpos⟩] X.env)).filterMap (·.1) = [Str.ofString "start"] := by rfl)
    (hnone : (backToKw pos (keywordEach [⟨some "start", .Constant (.int c) j cpos, kpos⟩] X.env)).any (·.1.isNone) = false := by rfl)
    (hpl : (backTo pos (starEach [Expr.Call (.Name "zip" pz) [e, e2] [] qz] X.env)).any (·.1) = false := by rfl) (hpl2 : (backTo qz (starEach [e2] X.env)).any (·.1) = false := by rfl) :
    L2.PI X (.Tuple elts kk tpos) (.Call (.Name "enumerate" p) [.Call (.Name "zip" pz) [e, e2] [] qz] [⟨some "start", .Constant (.int c) j cpos, kpos⟩] pos) (iEnumZ X.K ta c) := by
  refine ⟨fun pins s σ H R I h => ?_⟩
  refine wpAny_Call_Name_kw (ld_blt I hg hm boot_enumerate ?_)
  refine callWith_clsKw ?_ hall hpl hnone (by rw [hs]; rfl)
  refine PyProof.Rows.args_cons ?_ hs
  refine Call_ (ld_blt I hgz hmz PyProof.Rows.boot_zip (PyProof.Rows.callWith_type1 (thn (ha.run qz pins s σ H _ I h) fun us s1 ⟨vs, H1, I1, r1, q1⟩ => ?_) hs2 hpl2))
  obtain ⟨a, b, xs, ys, ex, hqx, hqy, q⟩ := q1
  subst ex
  cases r1 with
  | cons r rr =>
    cases rr with
    | cons r' rr =>
      cases rr
      cases r
      cases r'
      obtain ⟨its, rv, p1, _⟩ := I1.list hqx
      obtain ⟨its2, rv2, p2, _⟩ := I1.list hqy
      refine call_zip_2 p1.isList p2.isList fun h' hz hTI hTO hi1 hi2 hsz hk => PyProof.Rows.args_nil ?_
      show wpAny _ _ (evalAll [(do let v ← eval (.Constant (.int c) j cpos) X.env; standAt pos; pure v)]) _ _ _
      refine PyProof.Rows.evalAll_cons (wpAny_bind (wpAny_Constant_int (wpAny_bind (wpAny_standAt (wpAny_pure (PyProof.Rows.evalAll_nil ?_))))))
      rw [hks]
      refine enumZ_begins (s := ⟨h', s1.gens, s1.drawn, s1.toks + 1, s1.os⟩) hz h0 h1 fun h'' he hsz2 hk2 => wpAny_pyIter_enum he ?_
      have hsz' : h'.objs.size = s1.heap.objs.size + 5 := hsz
      have I3 : Inv X pins σ H1 { s1 with heap := h'', toks := s1.toks + 1 } := I1.kept (t' := s1.toks + 1) fun d o e => hk2 d o (hk d o e)
      have D := PySem.W.ktu_apart s1.heap.objs.size a b p1.lt p2.lt
      refine ⟨h'.objs.size, [h'.objs.size, s1.heap.objs.size + 4, s1.heap.objs.size + 2, s1.heap.objs.size + 3, s1.heap.objs.size, s1.heap.objs.size + 1], _, _, H1, rfl, I3, turn_enumZ c D ?_, ⟨⟨.none, ?_⟩, ?_⟩, fun d hd => ?_, q⟩
      · rw [hsz']
        simp
      · rw [show c + ((0 : Nat) : Int) = c by omega]
        exact he
      · exact ⟨⟨.none, false, hk2 _ _ hz, .inl rfl⟩, hk2 _ _ hTI, ⟨_, _, hk2 _ _ hTO⟩, hi1.at fun o q => hk2 _ o q, hi2.at fun o q => hk2 _ o q⟩
      · have hle : s1.heap.objs.size ≤ d := by
          have hd' : d = h'.objs.size ∨ d = s1.heap.objs.size + 4 ∨ d = s1.heap.objs.size + 2 ∨ d = s1.heap.objs.size + 3 ∨ d = s1.heap.objs.size ∨ d = s1.heap.objs.size + 1 := by simpa using hd
          rw [hsz'] at hd'
          rcases hd' with z | z | z | z | z | z
          · rw [z]; exact Nat.le_add_right _ _
          · rw [z]; exact Nat.le_add_right _ _
          · rw [z]; exact Nat.le_add_right _ _
          · rw [z]; exact Nat.le_add_right _ _
          · rw [z]; exact Nat.le_refl _
          · rw [z]; exact Nat.le_add_right _ _
        exact I1.fpOk hle (I1.hok.fresh hle)
section
open Evl
variable {K : PySem.W.Frag} {σ : L2.St} {H : Hp} {ta : TE} {tb : TE} {D : Ends} {tu tz : TS}
/-- for n, (x, y) in enumerate(zip(a, b), start=c) -/
theorem s_forEnZ {a b : Addr} {xs ys : List V} {j l m : Nat} {c : Int} (ha : Ev ta σ H (.ref a)) (hb : ∀ H1, Ex H H1 → Ev tb σ H1 (.ref b)) (hx : SqL K H a xs) (hy : SqL K H b ys) (hl : xs.length = ys.length) (Pv : Nat → L2.St → Hp → Prop) (h0 : ∀ H1, Ex H H1 → Pv 0 σ H1)
    (hq : ∀ i σ' H', Pv i σ' H' → SqL K H' a xs ∧ SqL K H' b ys)
    (hs : ∀ (i : Nat) (x y : V) σ' H', xs[i]? = some x → ys[i]? = some y → Pv i σ' H' → ∀ H1, Ex H' H1 → tu { D with nx := Pv (i + 1), ct := Pv (i + 1), bk := D.nx } (((σ'.set j (some (.int (c + (i : Int))))).set l (some x)).set m (some y)) H1)
    (hd : ∀ σ' H', Pv xs.length σ' H' → D.nx σ' H') :
    tFor (iEnumZ K (tCons ta (tCons tb tNil)) c) (gTup K 2 (gCons (gName j) (gCons (gTup K 2 (gCons (gName l) (gCons (gName m) gNil))) gNil))) tu D σ H := by
  refine ha H (Ex.refl H) _ fun H1 e1 => hb H1 e1 H1 (Ex.refl H1) _ fun H2 e2 => ⟨a, b, xs, ys, rfl, ex_l (e1.trans e2) hx, ex_l (e1.trans e2) hy, ?_⟩
  refine ⟨fun i m σ H => m = xs.length - i ∧ i ≤ xs.length ∧ Pv i σ H, ⟨xs.length, rfl, Nat.zero_le _, h0 H2 (e1.trans e2)⟩, ?_⟩
  rintro i mm σ H ⟨rfl, hi, p⟩
  obtain ⟨qx, qy⟩ := hq i σ H p
  by_cases hlt : i < xs.length
  · have ex : xs[i]? = some xs[i] := List.getElem?_eq_getElem hlt
    have hlt2 : i < ys.length := by omega
    have ey : ys[i]? = some ys[i] := List.getElem?_eq_getElem hlt2
    refine .inr ⟨⟨xs, ys, _, _, qx, qy, ex, ey⟩, Pv (i + 1), fun σ' H' p' => ⟨xs.length - (i + 1), by omega, rfl, hlt, p'⟩, fun v H' yl => ?_⟩
    obtain ⟨T, P, x', y', rfl, hT, hP, ne, rfl, f1, f2⟩ := yl
    have hP' : (upd H T (.tup [x', y'])) P = none := by rw [upd_ne ne]; exact hP
    exact ⟨P, _, rfl, st_of upd_same, rfl, _, _, rfl, _, _, rfl, T, _, rfl, st_of (by rw [upd_ne (Ne.symm ne), upd_same]), rfl, _, _, rfl, _, _, rfl, rfl, rfl, hs i x' y' σ H (f1 xs qx) (f2 ys qy) p _ ((Ex.new hT).trans (Ex.new hP'))⟩
  · have e : i = xs.length := by omega
    subst e
    exact .inl ⟨⟨xs, ys, qx, qy, Or.inl (Nat.le_refl _)⟩, hd σ H p⟩
theorem q_forEnZ {a b : Addr} {xs ys : List V} {j l m : Nat} {c : Int} (ha : Ev ta σ H (.ref a)) (hb : ∀ H1, Ex H H1 → Ev tb σ H1 (.ref b)) (hx : SqL K H a xs) (hy : SqL K H b ys) (hl : xs.length = ys.length) (Pv : Nat → L2.St → Hp → Prop) (h0 : ∀ H1, Ex H H1 → Pv 0 σ H1)
    (hq : ∀ i σ' H', Pv i σ' H' → SqL K H' a xs ∧ SqL K H' b ys)
    (hs : ∀ (i : Nat) (x y : V) σ' H', xs[i]? = some x → ys[i]? = some y → Pv i σ' H' → ∀ H1, Ex H' H1 → tu { D with nx := Pv (i + 1), ct := Pv (i + 1), bk := tz D } (((σ'.set j (some (.int (c + (i : Int))))).set l (some x)).set m (some y)) H1)
    (hd : ∀ σ' H', Pv xs.length σ' H' → tz D σ' H') :
    tSeq (tFor (iEnumZ K (tCons ta (tCons tb tNil)) c) (gTup K 2 (gCons (gName j) (gCons (gTup K 2 (gCons (gName l) (gCons (gName m) gNil))) gNil))) tu) tz D σ H := s_forEnZ (D := { D with nx := tz D }) ha hb hx hy hl Pv h0 hq hs hd
/-- [e for x, y in zip(xs, ys) if ..] of pure parts -/
theorem el_lcZF {a b : Addr} {xs ys : List V} {tl tr : TE} {i j : Nat} {vs : List Nat} {t : TT} {te : TE} (f : Nat → Bool) (v : Nat → V) (h : Ev tl σ H (.ref a)) (h' : Ev tr σ H (.ref b)) (hx : SqL K H a xs) (hy : SqL K H b ys) (hz : xs.length ≤ 40000)
    (hw : ∀ x y, wipe (((wipe σ vs).set i (some x)).set j (some y)) vs = wipe σ vs)
    (ht : ∀ (n : Nat) x y H1, Ex H H1 → xs[n]? = some x → ys[n]? = some y → EvT t (((wipe σ vs).set i (some x)).set j (some y)) H1 (f n))
    (he : ∀ (n : Nat) x y H1, Ex H H1 → xs[n]? = some x → ys[n]? = some y → f n = true → Ev te (((wipe σ vs).set i (some x)).set j (some y)) H1 (v n)) :
    EvL (tLc (iZip K (tCons tl (tCons tr tNil))) (g2 K i j) t te vs) σ H (given (min xs.length ys.length) f v) := fun H0 e Q q => h H0 e _ fun H1 e1 => h' H1 (e.trans e1) _ fun H2 e2 => by
  have ee := (e.trans e1).trans e2
  refine ⟨a, b, xs, ys, rfl, ex_l ee hx, ex_l ee hy, fun Dl hD => ?_⟩
  refine ⟨fun n m H => m = min xs.length ys.length - n ∧ n ≤ min xs.length ys.length ∧ Cw H2 f v Dl n H, ⟨min xs.length ys.length, by simp, Nat.zero_le _, hD, Ex.new hD, upd_same⟩, ?_⟩
  rintro n m H ⟨rfl, hi, p⟩
  have qx := ex_l (ee.trans p.2.1) hx
  have qy := ex_l (ee.trans p.2.1) hy
  by_cases hlt : n < min xs.length ys.length
  · have h1 : n < xs.length := by omega
    have h2 : n < ys.length := by omega
    refine .inr ⟨⟨xs, ys, xs[n], ys[n], qx, qy, by simp [h1], by simp [h2]⟩, Cw H2 f v Dl (n + 1), fun H' p' => ⟨min xs.length ys.length - (n + 1), by omega, rfl, hlt, p'⟩, ?_⟩
    rintro w H' ⟨T, x, y, rfl, nT, rfl, gx, gy⟩
    have e3 := Ex.new (o := .tup [x, y]) nT
    refine g2_go upd_same ⟨hw _ _, cw_turn ⟨p.1, p.2.1.trans e3, e3 _ _ p.2.2⟩ (by omega) (ht n x y H2 ee (gx xs qx) (gy ys qy)) fun hf => he n x y H2 ee (gx xs qx) (gy ys qy) hf⟩
  · have e' : n = min xs.length ys.length := by omega
    subst e'
    exact .inl ⟨⟨xs, ys, qx, qy, by omega⟩, q Dl H (fresh_back (e1.trans e2) p.1) ((e1.trans e2).trans p.2.1) p.2.2⟩
end
end Bk
namespace Bk
open PySem PySem.Spec PyProof.Rows L2 Evl
/-! ### numbers of many digits as texts: the limit of digits is not set -/
def NoDig (h : Heap) : Prop := ∃ mc, h.Ns cStatics mc ∧ mc "sys.int_max_str_digits" = none
theorem NoDig.keeps {h h' : Heap} (x : NoDig h) (k : ∀ b o, h.get? b = some o → h'.get? b = some o) : NoDig h' := by
  obtain ⟨mc, ⟨o, es, ep, e, d, r⟩, n⟩ := x
  exact ⟨mc, ⟨o, es, ep, k _ _ e, d, r⟩, n⟩
theorem noDig_of {K : PySem.W.Frag} {h : Heap} (X : K.In h) (L : h.NoLimit) (e : PySem.W.nsIn K cStatics "sys.int_max_str_digits" = some none) : NoDig h := by
  obtain ⟨mc, G, _⟩ := L
  refine ⟨mc, G, ?_⟩
  obtain ⟨o, es, ep, ho, hd, _, hf⟩ := G
  unfold PySem.W.nsIn at e
  split at e
  · rename_i q
    have z := X _ _ q
    rw [ho] at z
    cases z; cases hd
    split at e
    · cases e
    · rename_i hn
      rw [← hf]; unfold nsFind findBy; rw [← Array.find?_toList, hn]; rfl
  · cases e
theorem over_big {M : Model} {A : Around} {E : Value → Shared → Prop} {s : Shared} {a : Int} {Q : Option Nat → Shared → Prop} (h : a.natAbs.log2 < 12000) (nd : NoDig s.heap) (q : Q none s) : wpAny M A (Builtin.overDigitLimit? a) Q E s := by
  unfold Builtin.overDigitLimit?
  by_cases c : a.natAbs.log2 < 1920
  · rw [if_pos c]; exact wpAny_pure q
  rw [if_neg c]
  obtain ⟨mc, G, e⟩ := nd
  refine wpAny_bind ?_
  unfold Builtin.intMaxStrDigits
  refine wpAny_bind (wpAny_nsGet G ?_)
  rw [e]
  refine wpAny_pure ?_
  have c1 : ¬ a.natAbs.log2 / 30 + 1 > 1000 := by omega
  show wpAny M A (if a.natAbs.log2 / 30 + 1 > 1000 then _ else if (4300 == 0 || decide (a.natAbs.log2 < 3 * 4300)) = true then pure none else _) Q E s
  rw [if_neg c1, if_pos (by rw [decide_eq_true (by omega)]; rfl)]
  exact wpAny_pure q
theorem repr_big {a : Int} (t : Tok) (h : a.natAbs.log2 < 12000) : GivesAt (fun s => NoDig s.heap) (Builtin.«int.__repr__» ⟨[.int a t], []⟩) (.str (toString a)) := by
  intro prog w A R s nd p
  unfold Builtin.«int.__repr__»
  refine wpAny_bind (wpAny_pure ?_)
  show wpAny _ _ (do let r ← Builtin.overDigitLimit? a; _) _ _ s
  refine wpAny_bind (over_big h nd ?_)
  exact wpAny_bind (wpAny_mkStr (wpAny_pure p.2) p.1)
theorem big_fits {a : Int} (h : a.natAbs.log2 < 12000) : (Str.ofString (toString a)).length ≤ sizeLine := by
  have e := int_text_length_le (k := 12000) (by decide) h
  rw [PySem.ofString_length, sizeLine_eq]; omega
theorem reprK_big {prog : Program} {w : World} {h₀ : Heap} {a : Int} (t : Tok) (nd : NoDig h₀) (h : a.natAbs.log2 < 12000) : ReprK prog w [] h₀ 0 (.int a t) (toString a) := fun base hb A g E s Q hg hcl hu hk hQ => by
  rw [pyReprUnder_leaf (v := .int a t) (by omega) (fun _ e => nomatch e)]
  unfold pyRepr
  exact wpAny_bind (wpAny_pyReprObj_slot (by omega) (typeIs_int s a t) F.slot_int_repr.toG (call_givesAt F.slot_int_repr (typeIs_int s a t) F.entry_int_repr (F.args_int_repr_1 _) (repr_big t h) (nd.keeps hk) ⟨big_fits h, _, _, rfl, wpAny_pure (hQ s.heap _ fun _ _ e => e)⟩))
theorem all_big {prog : Program} {w : World} {h₀ : Heap} (nd : NoDig h₀) : ∀ (ns : List Int) (vs : List Value) (as : List Addr), (∀ n ∈ ns, n.natAbs.log2 < 12000) → ReadsAll h₀ vs (di ns) as → ReprAllK prog w [] h₀ 0 vs (PyData.shownAll (di ns))
  | [], vs, as, hn, r => by
    cases r
    exact .nil
  | n :: ns, vs, as, hn, r => by
    cases r with
    | cons r rs =>
      show ReprAllK prog w [] h₀ 0 _ (PyData.shownAll (.int n :: di ns))
      rw [PyData.shownAll]
      refine .cons ?_ (all_big nd ns _ _ (fun m hm => hn m (List.mem_cons_of_mem _ hm)) rs)
      cases r with
      | int i t => rw [PyData.shown]; exact reprK_big t nd (hn n List.mem_cons_self)
def rReprB (K : PySem.W.Frag) : List V → Hp → VK → Prop := fun xs H Q => ∃ (a : Addr) (ns : List Int), xs = [.ref a] ∧ SqL K H a (vi ns) ∧ (∀ n ∈ ns, n.natAbs.log2 < 12000) ∧ ns.length ≤ 1000 ∧ Q (.str (PyData.list (di ns)).shown) H
theorem shown_big {ns : List Int} (h : ∀ n ∈ ns, n.natAbs.log2 < 12000) : ∀ t ∈ PyData.shownAll (di ns), t.length ≤ 12001 := fun t ht => shown_le (k := 12000) (by decide) h t ht
theorem call_reprB {X : Cx} {K : PySem.W.Frag} (hK : X.K = K) (bd : PySem.W.nsIn K cStatics "sys.int_max_str_digits" = some none) (hg : X.A.guards = some []) (hu : X.A.units + 64 < cLine) : CallR X (.builtin "repr") (rReprB K) := by
  subst hK
  intro pins s σ H xs us Q I r h
  obtain ⟨a, ns, rfl, hS, hw, hl, q⟩ := h
  obtain ⟨u, rfl, ru⟩ := vals1 r
  cases (show u = Value.ref a from ru)
  have nd : NoDig s.heap := noDig_of I.kIn I.nolimit bd
  obtain ⟨as, rd⟩ := Dp.reads I (.list (di ns)) (.ref a) (.ref a) (dp_lst hS) rfl
  have hz : (listText (PyData.shownAll (di ns))).length ≤ sizeLine := by
    have h1 := listText_le (shown_big hw)
    have h2 : (PyData.shownAll (di ns)).length = ns.length := by rw [shownAll_ints, List.length_map]
    rw [h2] at h1
    have : (12001 + 2) * ns.length ≤ 12003 * 1000 := Nat.mul_le_mul (Nat.le_refl _) hl
    have e : sizeLine = 16777216 := by decide
    omega
  cases rd with
  | list h1 h2 h3 h4 =>
    rename_i o vs n bs
    have hk := all_big (prog := X.prog) (w := X.w) nd ns _ _ hw h4
    refine call_repr_slot (by omega) (T := "list") (idr := "list.__repr__") ⟨o, h1, h2⟩ F.slot_list_repr.toG ?_
    obtain ⟨l⟩ := vs
    cases l with
    | nil =>
      have h4' : ReadsAll s.heap [] (di ns) _ := h4
      have e : ns = [] := by cases ns with | nil => rfl | cons _ _ => cases h4'
      subst e
      exact call_list_repr_empty ⟨o, h1, h2⟩ h1 h3 ⟨_, _, rfl, .str _, H, I.kept fun _ _ e => e, ⟨_, rfl⟩, q⟩
    | cons x l =>
      exact call_list_reprK h1 h2 h3 (List.not_mem_nil) (by simpa using hk.length_eq) (fun i y e => hk.item i y (by simpa using e)) hg (fun b _ => Clear.nil b) (by show X.A.units + 1 + (0 + 1) < cLine; omega) (fun _ _ e => e) (fun h' u tk k => ⟨_, _, rfl, .str _, H, I.kept k, ⟨_, rfl⟩, by rw [PyData.shown] at q; exact q⟩) hz
/-- of any data, or of a list of great numbers -/
def rReprC (K : PySem.W.Frag) : List V → Hp → VK → Prop := fun xs H Q => rReprX K xs H Q ∨ rReprB K xs H Q
theorem call_reprC {X : Cx} {K : PySem.W.Frag} (hK : X.K = K) (bd : PySem.W.nsIn K cStatics "sys.int_max_str_digits" = some none) (hg : X.A.guards = some []) (hu : X.A.units + 64 < cLine) : CallR X (.builtin "repr") (rReprC K) := by
  intro pins s σ H xs us Q I r h
  rcases h with h | h
  · exact call_reprX hK hg hu pins s σ H xs us Q I r h
  · exact call_reprB hK bd hg hu pins s σ H xs us Q I r h
section
variable {K : PySem.W.Frag} {σ : L2.St} {H : Hp} {te : TE}
theorem ev_reprCX {d : PyData} (h : EvD K te σ H d) (hs : Sho d) (no : ∀ y, d ≠ .str y) : Ev (tCB (rReprC K) (tCons te tNil)) σ H (.str d.shown) := fun H1 e Q q =>
  h H1 e _ fun v H2 e2 hd => .inl ⟨v, d, rfl, hd, hs, no, q H2 e2⟩
theorem ev_reprCB {p : Addr} {ns : List Int} (h : Ev te σ H (.ref p)) (g : SqL K H p (vi ns)) (hw : ∀ n ∈ ns, n.natAbs.log2 < 12000) (hl : ns.length ≤ 1000) : Ev (tCB (rReprC K) (tCons te tNil)) σ H (.str (PyData.list (di ns)).shown) := fun H1 e Q q =>
  h H1 e _ fun H2 e2 => .inr ⟨p, ns, rfl, ex_l (e.trans e2) g, hw, hl, q H2 e2⟩
theorem ev_reprCN {ns : List Int} (h : EvL te σ H (vi ns)) (hw : ∀ n ∈ ns, n.natAbs.log2 < 12000) (hl : ns.length ≤ 1000) : Ev (tCB (rReprC K) (tCons te tNil)) σ H (.str (PyData.list (di ns)).shown) := fun H1 e Q q =>
  h H1 e _ fun p H2 hp e2 g => .inr ⟨p, ns, rfl, sq_of g, hw, hl, q H2 e2⟩
theorem ev_reprB {p : Addr} {ns : List Int} (h : Ev te σ H (.ref p)) (g : SqL K H p (vi ns)) (hw : ∀ n ∈ ns, n.natAbs.log2 < 12000) (hl : ns.length ≤ 1000) : Ev (tCB (rReprB K) (tCons te tNil)) σ H (.str (PyData.list (di ns)).shown) := fun H1 e Q q =>
  h H1 e _ fun H2 e2 => ⟨p, ns, rfl, ex_l (e.trans e2) g, hw, hl, q H2 e2⟩
theorem ev_reprNB {ns : List Int} (h : EvL te σ H (vi ns)) (hw : ∀ n ∈ ns, n.natAbs.log2 < 12000) (hl : ns.length ≤ 1000) : Ev (tCB (rReprB K) (tCons te tNil)) σ H (.str (PyData.list (di ns)).shown) := fun H1 e Q q =>
  h H1 e _ fun p H2 hp e2 g => ⟨p, ns, rfl, sq_of g, hw, hl, q H2 e2⟩
end
end Bk
namespace Bk
open PySem PySem.Spec PyProof.Rows L2 Evl
/-! ### math.lcm of greater numbers -/
def rLcmW : List V → Hp → VK → Prop := fun vs H Q => ∃ a b : Int, vs = [.int a, .int b] ∧ a.natAbs < 2 ^ 6000 ∧ b.natAbs < 2 ^ 6000 ∧ Q (.int ((Nat.lcm a.natAbs b.natAbs : Nat) : Int)) H
theorem log_w {n : Nat} (h : n < 2 ^ 6000) : (max 1 n).log2 < 6000 := PySem.Flt.log2_lt_of (by decide) (by
  rcases Nat.le_total 1 n with z | z
  · rw [Nat.max_eq_right z]; exact h
  · rw [Nat.max_eq_left z]; exact Nat.one_lt_two_pow (by decide))
theorem cr_lcmW {X : Cx} : CallR X (.builtin "math.lcm") rLcmW := by
  intro pins s σ H vs us Q I r h
  obtain ⟨a, b, rfl, ha, hb, q⟩ := h
  obtain ⟨t, u, rfl⟩ := Vals.int2 r
  have e : ((Nat.lcm 1 a.natAbs).lcm b.natAbs) = Nat.lcm a.natAbs b.natAbs := by rw [Nat.lcm_one_left]
  have h1 : Nat.lcm a.natAbs b.natAbs ≤ a.natAbs * b.natAbs := by
    by_cases h0 : a.natAbs * b.natAbs = 0
    · rcases Nat.mul_eq_zero.mp h0 with z | z
      · rw [z, Nat.lcm_zero_left]; exact Nat.zero_le _
      · rw [z, Nat.lcm_zero_right]; exact Nat.zero_le _
    · exact Nat.le_of_dvd (Nat.pos_of_ne_zero h0) (Nat.lcm_dvd_mul _ _)
  have h2 : a.natAbs * b.natAbs < 2 ^ 12000 := by
    rw [show 12000 = 6000 + 6000 from rfl, Nat.pow_add]
    exact Nat.mul_lt_mul'' ha hb
  have l1 := log_w ha
  have l2 : (max a.natAbs b.natAbs).log2 < 6000 := PySem.Flt.log2_lt_of (by decide) (by
    rcases Nat.le_total a.natAbs b.natAbs with z | z
    · rw [Nat.max_eq_right z]; exact hb
    · rw [Nat.max_eq_left z]; exact ha)
  have hsz : ((((Nat.lcm 1 a.natAbs).lcm b.natAbs : Nat) : Int)).natAbs.log2 < bitsLine := by
    rw [e, Int.natAbs_natCast]
    exact Nat.lt_of_lt_of_le (PySem.Flt.log2_lt_of (k := 12000) (by decide) (Nat.lt_of_le_of_lt h1 h2)) (by decide)
  refine call_function_meets PySem.W.MGF.kind_lcm PySem.W.MGF.plain_lcm PySem.W.MGF.entry_lcm (PySem.W.MGF.args_lcm _ _) (PySem.W.mg_run_lcm a t b u (by omega) (by omega) hsz).meets ?_
  rw [e]
  exact ⟨.int _, H, I.tok _, ⟨_, rfl⟩, q⟩
/-! ### list(range(a, b, c)) -/
variable {X : Cx}
def rgS (a b c : Int) : List V := (List.range (Builtin.Range.rangeSize a b c).toNat).map fun i => V.int (a + (i : Nat) * c)
def tRg3 (ta tb tc : TE) : L2.St → Hp → (Int → Int → Int → Hp → Prop) → Prop := fun σ H Q => ta σ H fun x H1 => tb σ H1 fun y H2 => tc σ H2 fun z H3 => ∃ i j k, x = .int i ∧ y = .int j ∧ z = .int k ∧ Q i j k H3
def RgS (a b c : Int) : Prop := 0 < c ∧ -(2 ^ 62) ≤ a ∧ a < 2 ^ 62 ∧ -(2 ^ 62) ≤ b ∧ b < 2 ^ 62 ∧ c < 2 ^ 60 ∧ b - a ≤ 2 ^ 24
theorem small_s {a b c : Int} (h : RgS a b c) : Builtin.Range.small a b c = true ∧ ∃ n : Nat, Builtin.Range.rangeSize a b c = n ∧ n ≤ 2 ^ 24 := by
  obtain ⟨h0, h1, h2, h3, h4, h5, h6⟩ := h
  have hd : 0 ≤ b - a - 1 → 0 ≤ (b - a - 1) / c ∧ (b - a - 1) / c ≤ b - a - 1 := fun z => ⟨Int.ediv_nonneg z (by omega), Int.ediv_le_self _ z⟩
  have hs : 0 ≤ Builtin.Range.rangeSize a b c ∧ Builtin.Range.rangeSize a b c ≤ 2 ^ 24 := by
    unfold Builtin.Range.rangeSize
    rw [if_pos h0]
    by_cases z : a < b
    · rw [if_pos z]
      have := hd (by omega)
      omega
    · rw [if_neg z]
      decide
  refine ⟨?_, (Builtin.Range.rangeSize a b c).toNat, by rw [Int.toNat_of_nonneg hs.1], by omega⟩
  have e62 : (2 : Int) ^ 62 = 4611686018427387904 := by decide
  have e60 : (2 : Int) ^ 60 = 1152921504606846976 := by decide
  have e24 : (2 : Int) ^ 24 = 16777216 := by decide
  rw [e62] at *
  rw [e60] at *
  rw [e24] at *
  unfold Builtin.Range.small
  simp only [Builtin.Range.rangeFitsLong, Bool.and_eq_true, Bool.or_eq_true, decide_eq_true_eq, beq_iff_eq, h0, if_true]
  refine ⟨⟨?_, ?_⟩, ?_⟩ <;> first | omega | skip
theorem args3 {a b c : Expr} {ta tb tc : TE} {p pos : Pos} (hg : Gl X "range") (hm : X.mg "range" = none) (ha : PE X a ta) (hb : PE X b tb) (hc : PE X c tc) (na : starEach [a, b, c] X.env = (false, eval a X.env) :: starEach [b, c] X.env := by rfl)
    (nb : starEach [b, c] X.env = (false, eval b X.env) :: starEach [c] X.env := by rfl) (nc : starEach [c] X.env = (false, eval c X.env) :: starEach [] X.env := by rfl) (hp : (backTo pos (starEach [b, c] X.env)).any (·.1) = false := by rfl)
    {pins : List (Addr × Obj)} {s : Shared} {σ : L2.St} {H : Hp} {Q : Int → Int → Int → Hp → Prop} (I : Inv X pins σ H s) (h : tRg3 ta tb tc σ H fun i j k H1 => RgS i j k ∧ Q i j k H1) :
    wpAny (model X.prog X.w) X.A (eval (.Call (.Name "range" p) [a, b, c] [] pos) X.env) (fun x s' => ∃ r i j k t u v H', x = .ref r ∧ IsRange s'.heap r i j k t u v ∧ Inv X pins σ H' s' ∧ RgS i j k ∧ Q i j k H') X.xe s := by
  refine Call_ (ld_blt I hg hm boot_range (PyProof.Rows.callWith_type1 (args_cons (thn (ha.run pins s σ H _ I h) fun x s1 ⟨vx, H1, I1, r1, q1⟩ => args_cons (thn (hb.run pins s1 σ H1 _ I1 q1) fun y s2 ⟨vy, H2, I2, r2, q2⟩ => one_arg hc I2 q2 (fun u s3 z H3 I3 r3 q => ?_) nc) nb) na) na hp))
  obtain ⟨i, j, k, rfl, rfl, rfl, ok, q⟩ := q
  obtain ⟨t, rfl⟩ := r1
  obtain ⟨t', rfl⟩ := r2
  obtain ⟨t'', rfl⟩ := r3
  have o := ok
  obtain ⟨k0, k1, k2, k3, k4, k5, k6⟩ := o
  have hk : k.natAbs < 2 ^ 64 := by
    have e60 : (2 : Int) ^ 60 = 1152921504606846976 := by decide
    have e64 : (2 : Nat) ^ 64 = 18446744073709551616 := by decide
    omega
  refine call_range_3 (by omega) ⟨_, i, j, k, _, _, _, H3, rfl, IsRange.new _ _ _ _ _ _ _, I3.kept fun b u e => Heap.get?_push_of_some _ e, ok, q⟩ (.inl (PyProof.noPylong_of_log2 (Nat.lt_of_lt_of_le (PySem.Flt.log2_lt_of (k := 64) (by decide) hk) (by decide))))
def tLstRg3 (te : L2.St → Hp → (Int → Int → Int → Hp → Prop) → Prop) : TE := fun σ H Q => te σ H fun a b c H1 => RgS a b c ∧ ∀ q, H1 q = none → Q (.ref q) (upd H1 q (.lst (rgS a b c)))
theorem vals_rgS {a b c : Int} {n : Nat} (hn : Builtin.Range.rangeSize a b c = n) {acc : Array Value} (h : ItemsOf (fun i v => ∃ t, v = .int (a + i * c) t) acc n) : Vals (rgS a b c) acc.toList := by
  have e : acc.toList.length = n := by rw [Array.length_toList]; exact h.1
  unfold rgS
  rw [hn, Int.toNat_natCast, ← e]
  refine vals_of_get acc.toList _ fun j u hj => ?_
  obtain ⟨t, rfl⟩ := h.2 j u (by rw [← hj, Array.getElem?_toList])
  exact ⟨t, rfl⟩
theorem pe_listRg3 {a b c : Expr} {ta tb tc : TE} {p p2 pos pos2 : Pos} (hca : X.calm = true) (hl : Gl X "list") (hml : X.mg "list" = none) (hg : Gl X "range") (hm : X.mg "range" = none) (ha : PE X a ta) (hb : PE X b tb) (hc : PE X c tc) (na : starEach [a, b, c] X.env = (false, eval a X.env) :: starEach [b, c] X.env := by rfl)
    (nb : starEach [b, c] X.env = (false, eval b X.env) :: starEach [c] X.env := by rfl) (nc : starEach [c] X.env = (false, eval c X.env) :: starEach [] X.env := by rfl) (hp : (backTo pos (starEach [b, c] X.env)).any (·.1) = false := by rfl)
    (ne : starEach [.Call (.Name "range" p) [a, b, c] [] pos] X.env = (false, eval (.Call (.Name "range" p) [a, b, c] [] pos) X.env) :: starEach [] X.env := by rfl) : PE X (.Call (.Name "list" p2) [.Call (.Name "range" p) [a, b, c] [] pos] [] pos2) (tLstRg3 (tRg3 ta tb tc)) := by
  refine ⟨fun pins s σ H Q I h => ?_⟩
  refine Call_ (ld_blt I hl hml boot_list (PyProof.Rows.callWith_type1 (args_cons (thn (args3 hg hm ha hb hc na nb nc hp (Q := fun i j k H1 => ∀ q, H1 q = none → Q (.ref q) (upd H1 q (.lst (rgS i j k)))) I h) fun x s1 ⟨r, i, j, k, t, u, v, H1, ex, hr, I1, ok, q⟩ => args_nil ?_) ne) ne))
  subst ex
  obtain ⟨sm, n, hn, hle⟩ := small_s ok
  refine call_list_range (n := n) (I1.ok.hd hca) hr sm hn hle fun h' tk acc c' hk e' hi => ?_
  refine ⟨.ref s1.heap.objs.size, upd H1 s1.heap.objs.size (.lst (rgS i j k)), I1.laid hk (Nat.le_refl _) (show ObjOk X.prog X.w _ _ _ (.lst (rgS i j k)) from ⟨?_, acc.toList, c', vals_rgS hn hi, ?_⟩), rfl, q _ (I1.hok.fresh (Nat.le_refl _))⟩
  · unfold rgS
    rw [List.length_map, List.length_range, hn, Int.toNat_natCast, sizeLine_eq]; omega
  · rw [Array.toArray_toList]; exact e'
section
variable {K : PySem.W.Frag} {σ : L2.St} {H : Hp} {ta tb tc : TE} {a b c : Int}
theorem ev_lcmW (ha : Ev ta σ H (.int a)) (hb : Ev tb σ H (.int b)) (h1 : a.natAbs < 2 ^ 6000) (h2 : b.natAbs < 2 ^ 6000) : Ev (tCB rLcmW (tCons ta (tCons tb tNil))) σ H (.int ((Nat.lcm a.natAbs b.natAbs : Nat) : Int)) := fun H1 e Q q =>
  ha H1 e _ fun H2 e2 => hb H2 (e.trans e2) _ fun H3 e3 => ⟨a, b, rfl, h1, h2, q H3 (e2.trans e3)⟩
theorem el_rg3 (ha : Ev ta σ H (.int a)) (hb : Ev tb σ H (.int b)) (hc : Ev tc σ H (.int c)) (h : RgS a b c) : EvL (tLstRg3 (tRg3 ta tb tc)) σ H (rgS a b c) := fun H1 e Q q =>
  ha H1 e _ fun H2 e2 => hb H2 (e.trans e2) _ fun H3 e3 => hc H3 ((e.trans e2).trans e3) _ fun H4 e4 => ⟨a, b, c, rfl, rfl, rfl, h, fun p hp => q p _ (fresh_back ((e2.trans e3).trans e4) hp) (((e2.trans e3).trans e4).trans (Ex.new hp)) upd_same⟩
theorem ev_minN {ns : List Int} {m : Int} (h : EvL ta σ H (vi ns)) (hm : m ∈ ns) (hx : ∀ y ∈ ns, m ≤ y) : Ev (tCB (rMin K) (tCons ta tNil)) σ H (.int m) := fun H1 e Q q =>
  h H1 e _ fun p H2 hp e2 g => ⟨p, ns, rfl, sq_of g, List.length_pos_of_mem hm, fun k h1 h2 => by
    have := hx k h1
    have := h2 m hm
    have e0 : k = m := by omega
    rw [e0]
    exact q H2 e2⟩
theorem ev_minP {p : Addr} {ns : List Int} {m : Int} (h : Ev ta σ H (.ref p)) (g : SqL K H p (vi ns)) (hm : m ∈ ns) (hx : ∀ y ∈ ns, m ≤ y) : Ev (tCB (rMin K) (tCons ta tNil)) σ H (.int m) := fun H1 e Q q =>
  h H1 e _ fun H2 e2 => ⟨p, ns, rfl, ex_l (e.trans e2) g, List.length_pos_of_mem hm, fun k h1 h2 => by
    have := hx k h1
    have := h2 m hm
    have e0 : k = m := by omega
    rw [e0]
    exact q H2 e2⟩
end
end Bk
namespace My
open PySem PySem.Spec PyProof.Rows L2 Evl Bk
open SX

/-! ### rings in drawn places -/
theorem cut_mid {xs : List V} {a l : Nat} (h : a + l ≤ xs.length) : cutV xs (some (a : Int)) (some ((a : Int) + (l : Int))) = (xs.drop a).take l := by
  unfold cutV
  rw [show (a : Int) + (l : Int) = ((a + l : Nat) : Int) by omega, HT.sIx_nat, HT.sIx_nat, Nat.min_eq_left h, Nat.min_eq_left (show a ≤ xs.length by omega)]
  congr 1
  omega
theorem erase_perm {ps : List Int} {k : Nat} (h : k < ps.length) : (ps[k] :: ps.eraseIdx k).Perm ps := by
  induction ps generalizing k with
  | nil => exact absurd h (Nat.not_lt_zero _)
  | cons a r ih =>
    cases k with
    | zero => exact List.Perm.refl _
    | succ k =>
      have hk : k < r.length := by simpa using h
      have := ih (k := k) hk
      exact (List.Perm.swap a r[k] (r.eraseIdx k)).trans (List.Perm.cons a this)
def look (F : List Int) (q : Int) : Int := F.getD q.toNat 0
theorem look_set_same {F : List Int} {k : Nat} {x : Int} (h : k < F.length) : look (F.set k x) (k : Int) = x := by
  unfold look
  rw [Int.toNat_natCast, List.getD_eq_getElem?_getD, List.getElem?_set_self h]
  rfl
theorem look_set_ne {F : List Int} {k : Nat} {x q : Int} (h0 : 0 ≤ q) (h : q ≠ (k : Int)) : look (F.set k x) q = look F q := by
  unfold look
  rw [List.getD_eq_getElem?_getD, List.getD_eq_getElem?_getD, List.getElem?_set_ne (by omega)]
def RingInv (pl F : List Int) (at' : Nat) : Prop := F.length = pl.length ∧ ((pl.take at').map (look F)).Perm (pl.take at')
theorem rot_perm (l : List Int) (n : Nat) (h : 0 < n) (hl : l.length = n) : ((List.range n).map fun j => l.getD ((j + 1) % n) 0).Perm l := by
  cases l with
  | nil =>
    rw [List.length_nil] at hl
    omega
  | cons a r =>
    have e : ((List.range n).map fun j => (a :: r).getD ((j + 1) % n) 0) = r ++ [a] := by
      refine List.ext_getElem? fun i => ?_
      rw [List.length_cons] at hl
      rw [List.getElem?_map, List.getElem?_append]
      by_cases hi : i < r.length
      · rw [if_pos hi, List.getElem?_range (by omega)]
        show some ((a :: r).getD ((i + 1) % n) 0) = _
        rw [Nat.mod_eq_of_lt (by omega), List.getD_eq_getElem?_getD, List.getElem?_cons_succ, List.getElem?_eq_getElem hi]
        rfl
      · rw [if_neg hi]
        by_cases hj : i = r.length
        · rw [List.getElem?_range (by omega)]
          show some ((a :: r).getD ((i + 1) % n) 0) = _
          rw [show i + 1 = n by omega, Nat.mod_self, show i - r.length = 0 by omega]
          rfl
        · rw [List.getElem?_eq_none (by rw [List.length_range]; omega), List.getElem?_eq_none (by rw [List.length_singleton]; omega)]
          rfl
    rw [e]
    exact List.perm_append_comm (l₁ := r) (l₂ := [a])
theorem ring_step {pl F F' : List Int} {at' len : Nat} (h : RingInv pl F at') (hl : 0 < len) (ha : at' + len ≤ pl.length) (h1 : F'.length = pl.length)
    (h2 : ∀ q ∈ pl.take at', look F' q = look F q) (h3 : ∀ j, j < len → look F' (pl.getD (at' + j) 0) = pl.getD (at' + (j + 1) % len) 0) : RingInv pl F' (at' + len) := by
  refine ⟨h1, ?_⟩
  have e : pl.take (at' + len) = pl.take at' ++ (pl.drop at').take len := List.take_add
  rw [e, List.map_append]
  refine List.Perm.append ?_ ?_
  · rw [List.map_congr_left h2]
    exact h.2
  · have hlen : ((pl.drop at').take len).length = len := by
      rw [List.length_take, List.length_drop]
      omega
    refine List.Perm.trans (List.Perm.of_eq ?_) (rot_perm ((pl.drop at').take len) len hl hlen)
    refine List.ext_getElem? fun i => ?_
    rw [List.getElem?_map, List.getElem?_map]
    by_cases hi : i < len
    · have m : (i + 1) % len < len := Nat.mod_lt _ hl
      have g1 : ((pl.drop at').take len)[i]? = some (pl.getD (at' + i) 0) := by
        rw [List.getElem?_take_of_lt hi, List.getElem?_drop, List.getD_eq_getElem?_getD, List.getElem?_eq_getElem (show at' + i < pl.length by omega)]
        rfl
      have g2 : ((pl.drop at').take len).getD ((i + 1) % len) 0 = pl.getD (at' + (i + 1) % len) 0 := by
        rw [List.getD_eq_getElem?_getD, List.getElem?_take_of_lt m, List.getElem?_drop, List.getD_eq_getElem?_getD]
      rw [g1, List.getElem?_range hi]
      show some (look F' (pl.getD (at' + i) 0)) = some (((pl.drop at').take len).getD ((i + 1) % len) 0)
      rw [h3 i hi, g2]
    · rw [List.getElem?_eq_none (by omega), List.getElem?_eq_none (by rw [List.length_range]; omega)]
      rfl
theorem look_iota {F : List Int} {m : Nat} (h : F.length = m) : (iota m).map (look F) = F := by
  refine List.ext_getElem? fun i => ?_
  unfold iota
  rw [List.map_map, List.getElem?_map]
  by_cases hi : i < m
  · rw [List.getElem?_range hi, List.getElem?_eq_getElem (show i < F.length by omega)]
    show some (look F (i : Int)) = _
    unfold look
    rw [Int.toNat_natCast, List.getD_eq_getElem?_getD, List.getElem?_eq_getElem (show i < F.length by omega)]
    rfl
  · rw [List.getElem?_eq_none (by rw [List.length_range]; omega), List.getElem?_eq_none (by omega)]
    rfl
theorem ring_end {pl F : List Int} (hp : Shf pl) (h : RingInv pl F pl.length) : Shf F := by
  obtain ⟨h1, h2⟩ := h
  rw [List.take_of_length_le (Nat.le_refl _)] at h2
  refine ⟨by rw [h1]; exact hp.1, by rw [h1]; exact hp.2.1, ?_⟩
  have e := hp.2.2.map (look F)
  rw [look_iota h1] at e
  rw [h1]
  exact (e.symm.trans h2).trans hp.2.2
theorem Shf.get {ns : List Int} (h : Shf ns) {i : Nat} (hi : i < ns.length) : ∃ k : Nat, ns[i]? = some (k : Int) ∧ ns.getD i 0 = (k : Int) ∧ k < ns.length := by
  have m := h.mem (List.getElem_mem hi)
  refine ⟨ns[i].toNat, ?_, ?_, by omega⟩
  · rw [List.getElem?_eq_getElem hi, Int.toNat_of_nonneg m.1]
  · rw [List.getD_eq_getElem?_getD, List.getElem?_eq_getElem hi, Int.toNat_of_nonneg m.1]
    rfl
theorem Shf.inj {ns : List Int} (h : Shf ns) {i j : Nat} (hi : i < ns.length) (hj : j < ns.length) (e : ns.getD i 0 = ns.getD j 0) : i = j := by
  rw [List.getD_eq_getElem?_getD, List.getD_eq_getElem?_getD, List.getElem?_eq_getElem hi, List.getElem?_eq_getElem hj] at e
  exact (List.getElem_inj h.nodup).mp e

/-! ### great shuffles -/
def stepsL (size step : Nat) : List Int := (List.range size).map fun k : Nat => ((k * step % size : Nat) : Int)
theorem stepsL_length (size step : Nat) : (stepsL size step).length = size := by simp [stepsL]
theorem steps_shf {size step : Nat} (h0 : 0 < size) (h1 : size ≤ 300) (hc : Nat.Coprime size step) : Shf (stepsL size step) := by
  have hl := stepsL_length size step
  refine ⟨by omega, by omega, ?_⟩
  rw [hl]
  refine perm_iota ?_ ?_ hl
  · show List.Pairwise _ _
    refine List.pairwise_iff_getElem.mpr fun i j hi hj hij e => ?_
    unfold stepsL at e hi hj
    rw [List.length_map, List.length_range] at hi hj
    simp only [List.getElem_map, List.getElem_range] at e
    have e1 : j * step % size = i * step % size := by omega
    have e2 := Nat.dvd_of_mod_eq_zero (Nat.sub_mod_eq_zero_of_mod_eq e1)
    rw [← Nat.mul_sub_right_distrib] at e2
    have e3 := hc.dvd_of_dvd_mul_right e2
    have := Nat.eq_zero_of_dvd_of_lt e3 (by omega)
    omega
  · intro x hx
    obtain ⟨k, _, rfl⟩ := List.mem_map.mp hx
    have := Nat.mod_lt (k * step) h0
    omega
theorem cop293 : ∀ s : Nat, s < 293 → 0 < s → Nat.gcd 293 s = 1 := by decide +kernel
theorem cop_one (n : Nat) : Nat.Coprime n 1 := Nat.gcd_one_right n
theorem cop_pred {n : Nat} (h : 0 < n) : Nat.Coprime n (n - 1) := by
  have a := Nat.dvd_sub (Nat.gcd_dvd_left n (n - 1)) (Nat.gcd_dvd_right n (n - 1))
  rw [show n - (n - 1) = 1 by omega] at a
  exact Nat.dvd_one.mp a
theorem iota_look {m : Nat} {q : Int} (h0 : 0 ≤ q) (h1 : q < m) : look (iota m) q = q := by
  unfold look iota
  rw [List.getD_eq_getElem?_getD, List.getElem?_map, List.getElem?_range (by omega)]
  show ((q.toNat : Nat) : Int) = q
  omega
theorem ring_rest {pl F : List Int} {t : Nat} (hp : Shf pl) (h : RingInv pl F t) (hd : ∀ q ∈ pl.drop t, look F q = q) : Shf F := by
  refine ring_end hp ⟨h.1, ?_⟩
  rw [List.take_of_length_le (Nat.le_refl _)]
  have e : (pl.take t ++ pl.drop t).map (look F) = (pl.take t).map (look F) ++ pl.drop t := by
    rw [List.map_append]
    congr 1
    rw [List.map_congr_left hd, List.map_id']
  have p := List.Perm.append_right (pl.drop t) h.2
  rw [← e, List.take_append_drop] at p
  exact p

/-! ### side by side -/
def besL (xs ys : List Int) : List Int := xs ++ ys.map fun y => (xs.length : Int) + y
theorem besL_length (xs ys : List Int) : (besL xs ys).length = xs.length + ys.length := by simp [besL]
theorem bes_shf {xs ys : List Int} (hx : Shf xs) (hy : Shf ys) (h : xs.length + ys.length ≤ 300) : Shf (besL xs ys) := by
  have x0 := hx.1
  refine ⟨by rw [besL_length]; omega, by rw [besL_length]; exact h, ?_⟩
  rw [besL_length]
  have e : iota (xs.length + ys.length) = iota xs.length ++ (iota ys.length).map fun y => (xs.length : Int) + y := by
    unfold iota
    rw [List.range_add, List.map_append, List.map_map, List.map_map]
    rfl
  rw [e]
  exact hx.2.2.append (hy.2.2.map _)
theorem bes_assoc (xs ys zs : List Int) : besL (besL xs ys) zs = besL xs (besL ys zs) := by
  unfold besL
  rw [List.append_assoc, List.map_append, List.map_map]
  congr 2
  refine List.map_congr_left fun z _ => ?_
  show (((xs ++ ys.map fun y => (xs.length : Int) + y).length : Nat) : Int) + z = (xs.length : Int) + ((ys.length : Int) + z)
  rw [List.length_append, List.length_map]
  omega
theorem bes_at (xs ys : List Int) {i : Nat} (h : i < xs.length) : (besL xs ys)[i]? = some (xs.getD i 0) := by
  unfold besL
  rw [List.getElem?_append_left h, List.getD_eq_getElem?_getD, List.getElem?_eq_getElem h]
  rfl
theorem bes_at' (xs ys : List Int) {i : Nat} (h : i < ys.length) : (besL xs ys)[xs.length + i]? = some ((xs.length : Int) + ys.getD i 0) := by
  unfold besL
  rw [List.getElem?_append_right (Nat.le_add_right _ _), Nat.add_sub_cancel_left, List.getElem?_map, List.getD_eq_getElem?_getD, List.getElem?_eq_getElem h]
  rfl
theorem take_vi {xs : List Int} {i : Nat} {x : Int} (h : xs[i]? = some x) : vi (xs.take i) ++ [.int x] = vi (xs.take (i + 1)) := by
  rw [List.take_succ, h]
  unfold vi
  rw [List.map_append]
  rfl
theorem given_map (ys : List Int) (g : Int → Int) : given (vi ys).length (fun _ => true) (fun i => V.int (g (ys.getD i 0))) = vi (ys.map g) := by
  rw [List.length_map, given_all]
  unfold vi
  refine List.ext_getElem? fun i => ?_
  rw [List.getElem?_map, List.getElem?_map, List.getElem?_map]
  by_cases hi : i < ys.length
  · rw [List.getElem?_range hi, List.getElem?_eq_getElem hi]
    show some (V.int (g (ys.getD i 0))) = _
    rw [List.getD_eq_getElem?_getD, List.getElem?_eq_getElem hi]
    rfl
  · rw [List.getElem?_eq_none (by rw [List.length_range]; omega), List.getElem?_eq_none (by omega)]
    rfl
theorem vi_ne {xs : List Int} (h : 0 < xs.length) : vi xs ≠ [] := fun e => by
  rw [List.map_eq_nil_iff.mp e] at h
  exact Nat.lt_irrefl _ h
theorem iota_shf {m : Nat} (h0 : 0 < m) (h1 : m ≤ 300) : Shf (iota m) := ⟨by rw [iota_length]; exact h0, by rw [iota_length]; exact h1, by rw [iota_length]⟩

/-! ### pairs -/
theorem range_add' (a b : Nat) : List.range (a + b) = List.range a ++ (List.range b).map (a + ·) := List.range_add
def pairL (xs ys : List Int) : List Int := (List.range (xs.length * ys.length)).map fun p => xs.getD (p / ys.length) 0 * (ys.length : Int) + ys.getD (p % ys.length) 0
theorem flat2_div (n m : Nat) (h : 0 < m) (v : Nat → Nat → V) : flat2 n m v = (List.range (n * m)).map fun p => v (p / m) (p % m) := by
  induction n with
  | zero => simp [flat2]
  | succ n ih =>
    rw [flat2_succ, ih, Nat.succ_mul, range_add', List.map_append, List.map_map]
    congr 1
    refine List.map_congr_left fun j hj => ?_
    have hj := List.mem_range.mp hj
    show v n j = v ((n * m + j) / m) ((n * m + j) % m)
    rw [Nat.mul_comm n m, Nat.mul_add_div h, Nat.div_eq_of_lt hj, Nat.mul_add_mod, Nat.mod_eq_of_lt hj, Nat.add_zero]
theorem pairL_length (xs ys : List Int) : (pairL xs ys).length = xs.length * ys.length := by simp [pairL]
theorem Shf.getD_lt {ns : List Int} (h : Shf ns) (i : Nat) : 0 ≤ ns.getD i 0 ∧ ns.getD i 0 < ns.length := by
  by_cases hi : i < ns.length
  · obtain ⟨k, _, e, l⟩ := Shf.get h hi
    omega
  · rw [List.getD_eq_getElem?_getD, List.getElem?_eq_none (by omega)]
    have := h.1
    show 0 ≤ (0 : Int) ∧ (0 : Int) < _
    omega
theorem pair_lt {n m x y : Int} (h0 : 0 ≤ x) (h1 : x < n) (h2 : 0 ≤ y) (h3 : y < m) : 0 ≤ x * m + y ∧ x * m + y < n * m := by
  have a : 0 ≤ x * m := Int.mul_nonneg h0 (by omega)
  have b : (x + 1) * m ≤ n * m := Int.mul_le_mul_of_nonneg_right (by omega) (by omega)
  rw [Int.add_mul] at b
  omega
theorem pair_wide {xs ys : List Int} (hx : Shf xs) (hy : Shf ys) (h : xs.length * ys.length ≤ 300) : wide 1900 (pairL xs ys) ∧ (pairL xs ys).length ≤ 4000 := by
  refine ⟨(wide_lt (k := 20) (by decide) fun n hn => ?_).mono (by decide), by rw [pairL_length]; omega⟩
  obtain ⟨p, hp, rfl⟩ := List.mem_map.mp hn
  obtain ⟨a0, a1⟩ := Shf.getD_lt hx (p / ys.length)
  obtain ⟨b0, b1⟩ := Shf.getD_lt hy (p % ys.length)
  obtain ⟨c0, c1⟩ := pair_lt a0 a1 b0 b1
  have : (xs.length : Int) * (ys.length : Int) ≤ 300 := by
    rw [← Int.natCast_mul]
    omega
  omega
theorem pairL_getD {xs ys : List Int} {p : Nat} (h : p < xs.length * ys.length) : (pairL xs ys).getD p 0 = xs.getD (p / ys.length) 0 * (ys.length : Int) + ys.getD (p % ys.length) 0 := by
  unfold pairL
  rw [List.getD_eq_getElem?_getD, List.getElem?_map, List.getElem?_range h]
  rfl
theorem pair_one (xs : List Int) : pairL [0] xs = xs := by
  refine List.ext_getElem? fun i => ?_
  unfold pairL
  rw [List.getElem?_map]
  by_cases hi : i < xs.length
  · rw [List.getElem?_range (by simpa using hi), List.getElem?_eq_getElem hi]
    show some (([0] : List Int).getD (i / xs.length) 0 * (xs.length : Int) + xs.getD (i % xs.length) 0) = _
    rw [Nat.div_eq_of_lt hi, Nat.mod_eq_of_lt hi, List.getD_eq_getElem?_getD, List.getD_eq_getElem?_getD, List.getElem?_eq_getElem hi]
    show some ((0 : Int) * (xs.length : Int) + xs[i]) = _
    rw [Int.zero_mul, Int.zero_add]
  · rw [List.getElem?_eq_none (by simpa using hi), List.getElem?_eq_none (by omega)]
    rfl
theorem pair_one' (xs : List Int) : pairL xs [0] = xs := by
  refine List.ext_getElem? fun i => ?_
  unfold pairL
  rw [List.getElem?_map]
  by_cases hi : i < xs.length
  · rw [List.getElem?_range (by simpa using hi), List.getElem?_eq_getElem hi]
    show some (xs.getD (i / 1) 0 * ((1 : Nat) : Int) + ([0] : List Int).getD (i % 1) 0) = _
    rw [Nat.div_one, Nat.mod_one, List.getD_eq_getElem?_getD, List.getElem?_eq_getElem hi]
    show some (xs[i] * ((1 : Nat) : Int) + 0) = _
    rw [Int.add_zero, show ((1 : Nat) : Int) = 1 from rfl, Int.mul_one]
  · rw [List.getElem?_eq_none (by simpa using hi), List.getElem?_eq_none (by omega)]
    rfl
/-- the other way round -/
def turnIx (n m p : Nat) : Nat := p % m * n + p / m
theorem turnIx_lt {n m p : Nat} (h : p < n * m) : turnIx n m p < m * n := by
  have hm : 0 < m := by
    cases m with
    | zero => rw [Nat.mul_zero] at h; exact absurd h (Nat.not_lt_zero _)
    | succ m => exact Nat.succ_pos m
  have a : p % m < m := Nat.mod_lt _ hm
  have b : p / m < n := Nat.div_lt_of_lt_mul (by rw [Nat.mul_comm]; exact h)
  have c : (p % m + 1) * n ≤ m * n := Nat.mul_le_mul_right _ a
  rw [Nat.succ_mul] at c
  unfold turnIx
  omega
theorem turnIx_back {n m q : Nat} (h : q < m * n) : ∃ p, p < n * m ∧ turnIx n m p = q := by
  have hn : 0 < n := by
    cases n with
    | zero => rw [Nat.mul_zero] at h; exact absurd h (Nat.not_lt_zero _)
    | succ n => exact Nat.succ_pos n
  have a : q % n < n := Nat.mod_lt _ hn
  have b : q / n < m := Nat.div_lt_of_lt_mul (by rw [Nat.mul_comm]; exact h)
  have hm : 0 < m := Nat.lt_of_le_of_lt (Nat.zero_le _) b
  refine ⟨q % n * m + q / n, ?_, ?_⟩
  · have c : (q % n + 1) * m ≤ n * m := Nat.mul_le_mul_right _ a
    rw [Nat.succ_mul] at c
    omega
  · unfold turnIx
    rw [Nat.mul_comm (q % n) m, Nat.mul_add_mod, Nat.mod_eq_of_lt b, Nat.mul_add_div hm, Nat.div_eq_of_lt b, Nat.add_zero, Nat.mul_comm]
    exact Nat.div_add_mod q n
theorem turn_val {xs ys : List Int} (hx : Shf xs) (hy : Shf ys) {p : Nat} (h : p < xs.length * ys.length) :
    (pairL xs ys).getD p 0 % (ys.length : Int) * (xs.length : Int) + (pairL xs ys).getD p 0 / (ys.length : Int) = (pairL ys xs).getD (turnIx xs.length ys.length p) 0 := by
  have hm : 0 < ys.length := hy.1
  have hn : 0 < xs.length := hx.1
  obtain ⟨a0, a1⟩ := Shf.getD_lt hx (p / ys.length)
  obtain ⟨b0, b1⟩ := Shf.getD_lt hy (p % ys.length)
  have b : p / ys.length < xs.length := Nat.div_lt_of_lt_mul (by rw [Nat.mul_comm]; exact h)
  rw [pairL_getD h, pairL_getD (turnIx_lt h)]
  have e1 : turnIx xs.length ys.length p / xs.length = p % ys.length := by
    unfold turnIx
    rw [Nat.mul_comm (p % ys.length) xs.length, Nat.mul_add_div hn, Nat.div_eq_of_lt b, Nat.add_zero]
  have e2 : turnIx xs.length ys.length p % xs.length = p / ys.length := by
    unfold turnIx
    rw [Nat.mul_comm (p % ys.length) xs.length, Nat.mul_add_mod, Nat.mod_eq_of_lt b]
  rw [e1, e2]
  generalize xs.getD (p / ys.length) 0 = x at *
  generalize ys.getD (p % ys.length) 0 = y at *
  have e3 : (x * (ys.length : Int) + y) % (ys.length : Int) = y := by
    rw [Int.add_comm, Int.mul_comm x, Int.add_mul_emod_self_left, Int.emod_eq_of_lt b0 b1]
  have e4 : (x * (ys.length : Int) + y) / (ys.length : Int) = x := by
    rw [Int.add_comm, Int.add_mul_ediv_right _ _ (by omega), Int.ediv_eq_zero_of_lt b0 b1, Int.zero_add]
  rw [e3, e4]
theorem turn_end {xs ys F : List Int} (hl : F.length = xs.length * ys.length) (h : ∀ p, p < xs.length * ys.length → F.getD (turnIx xs.length ys.length p) 0 = (pairL ys xs).getD (turnIx xs.length ys.length p) 0) : F = pairL ys xs := by
  refine List.ext_getElem? fun i => ?_
  by_cases hi : i < ys.length * xs.length
  · obtain ⟨p, hp, e⟩ := turnIx_back (n := xs.length) (m := ys.length) hi
    have := h p hp
    rw [e, List.getD_eq_getElem?_getD, List.getD_eq_getElem?_getD] at this
    have l1 : i < F.length := by rw [hl, Nat.mul_comm]; exact hi
    have l2 : i < (pairL ys xs).length := by rw [pairL_length]; exact hi
    rw [List.getElem?_eq_getElem l1, List.getElem?_eq_getElem l2] at this ⊢
    exact congrArg some this
  · rw [List.getElem?_eq_none (by rw [hl, Nat.mul_comm]; omega), List.getElem?_eq_none (by rw [pairL_length]; omega)]

/-! ### rings of a shuffle -/
def nx (ds : List Int) (i : Nat) : Nat := (ds.getD i 0).toNat
def orb (ds : List Int) (i : Nat) : Nat → Nat
  | 0 => i
  | t + 1 => nx ds (orb ds i t)
theorem nx_at {ds : List Int} (h : Shf ds) {i : Nat} (hi : i < ds.length) : (vi ds)[i]? = some (.int (nx ds i : Int)) := by
  obtain ⟨k, e1, e2, _⟩ := Shf.get h hi
  unfold nx vi
  rw [List.getElem?_map, e1, e2, Int.toNat_natCast]
  rfl
theorem nx_get {ds : List Int} (h : Shf ds) {i : Nat} (hi : i < ds.length) : ds.getD i 0 = (nx ds i : Int) := by
  obtain ⟨k, e1, e2, _⟩ := Shf.get h hi
  unfold nx
  rw [e2, Int.toNat_natCast]
theorem nx_lt {ds : List Int} (h : Shf ds) {i : Nat} (hi : i < ds.length) : nx ds i < ds.length := by
  obtain ⟨k, e1, e2, l⟩ := Shf.get h hi
  unfold nx
  rw [e2, Int.toNat_natCast]
  exact l
theorem nx_inj {ds : List Int} (h : Shf ds) {i j : Nat} (hi : i < ds.length) (hj : j < ds.length) (e : nx ds i = nx ds j) : i = j :=
  Shf.inj h hi hj (by rw [nx_get h hi, nx_get h hj, e])
theorem orb_lt {ds : List Int} (h : Shf ds) {i : Nat} (hi : i < ds.length) : ∀ t, orb ds i t < ds.length
  | 0 => hi
  | t + 1 => nx_lt h (orb_lt h hi t)
theorem orb_add (ds : List Int) (i a : Nat) : ∀ b, orb ds i (a + b) = orb ds (orb ds i a) b
  | 0 => rfl
  | b + 1 => by
    show nx ds (orb ds i (a + b)) = nx ds (orb ds (orb ds i a) b)
    rw [orb_add ds i a b]
structure IsRing (ds : List Int) (r : List Nat) : Prop where
  pos : 0 < r.length
  nd : r.Nodup
  lt : ∀ i ∈ r, i < ds.length
  nxt : ∀ j, j < r.length → nx ds (r.getD j 0) = r.getD ((j + 1) % r.length) 0
theorem getD_of {r : List Nat} {j : Nat} (h : j < r.length) : r.getD j 0 = r[j] := by
  rw [List.getD_eq_getElem?_getD, List.getElem?_eq_getElem h]
  rfl
theorem IsRing.orb {ds : List Int} {r : List Nat} (h : IsRing ds r) {j : Nat} (hj : j < r.length) : ∀ t, My.orb ds (r.getD j 0) t = r.getD ((j + t) % r.length) 0
  | 0 => by
    rw [Nat.add_zero, Nat.mod_eq_of_lt hj]
    rfl
  | t + 1 => by
    show nx ds (My.orb ds (r.getD j 0) t) = _
    rw [h.orb hj t, h.nxt _ (Nat.mod_lt _ h.pos), Nat.mod_add_mod, Nat.add_assoc]
theorem IsRing.ix {ds : List Int} {r : List Nat} (h : IsRing ds r) {a b : Nat} (ha : a < r.length) (hb : b < r.length) (e : r.getD a 0 = r.getD b 0) : a = b := by
  rw [getD_of ha, getD_of hb] at e
  exact (List.getElem_inj h.nd).mp e
theorem mod_back {j t n : Nat} (hj : j < n) : (j + t) % n = j ↔ t % n = 0 := by
  have hn : 0 < n := by omega
  have h := Nat.mod_lt t hn
  rw [← Nat.add_mod_mod]
  by_cases c : j + t % n < n
  · rw [Nat.mod_eq_of_lt c]
    omega
  · rw [Nat.mod_eq_sub_mod (by omega), Nat.mod_eq_of_lt (by omega)]
    omega
theorem IsRing.back {ds : List Int} {r : List Nat} (h : IsRing ds r) {j : Nat} (hj : j < r.length) (t : Nat) : My.orb ds (r.getD j 0) t = r.getD j 0 ↔ t % r.length = 0 := by
  rw [h.orb hj t]
  refine Iff.trans ⟨fun e => h.ix (Nat.mod_lt _ h.pos) hj e, fun e => by rw [e]⟩ (mod_back hj)
theorem IsRing.mem {ds : List Int} {r : List Nat} {i : Nat} (hi : i ∈ r) : ∃ j, j < r.length ∧ r.getD j 0 = i := by
  obtain ⟨j, hj, e⟩ := List.getElem_of_mem hi
  exact ⟨j, hj, by rw [getD_of hj, e]⟩
theorem IsRing.fro {ds : List Int} (hs : Shf ds) {r : List Nat} (h : IsRing ds r) {x : Nat} (hx : x < ds.length) (hm : nx ds x ∈ r) : x ∈ r := by
  obtain ⟨k, hk, e⟩ := IsRing.mem (ds := ds) hm
  have hp := h.pos
  have hl : (k + r.length - 1) % r.length < r.length := Nat.mod_lt _ hp
  have e2 := h.nxt _ hl
  rw [Nat.mod_add_mod, show k + r.length - 1 + 1 = k + r.length by omega, Nat.add_mod_right, Nat.mod_eq_of_lt hk, e] at e2
  have hr : r.getD ((k + r.length - 1) % r.length) 0 ∈ r := by
    rw [getD_of hl]
    exact List.getElem_mem hl
  rw [← nx_inj hs (h.lt _ hr) hx e2]
  exact hr
/-- the first turn behind which i is back -/
def wt (ds : List Int) (i : Nat) : Nat → Nat × Nat
  | 0 => (nx ds i, 1)
  | k + 1 => if (wt ds i k).1 = i then wt ds i k else (nx ds (wt ds i k).1, (wt ds i k).2 + 1)
def per (ds : List Int) (i : Nat) : Nat := (wt ds i ds.length).2
theorem nlen_le {n : Nat} {l : List Nat} (hn : l.Nodup) (h : ∀ x ∈ l, x < n) : l.length ≤ n := by
  have := len_le (n := n) (l := l.map fun k : Nat => (k : Int)) (List.Pairwise.map _ (fun a b (hab : a ≠ b) => by
    intro e
    exact hab (Int.ofNat.inj e)) hn) fun x hx => by
    obtain ⟨k, hk, rfl⟩ := List.mem_map.mp hx
    have := h k hk
    omega
  rw [List.length_map] at this
  exact this
theorem IsRing.wt {ds : List Int} {r : List Nat} (h : IsRing ds r) {j : Nat} (hj : j < r.length) : ∀ k, My.wt ds (r.getD j 0) k = (My.orb ds (r.getD j 0) (min r.length (k + 1)), min r.length (k + 1))
  | 0 => by
    have hp := h.pos
    rw [show min r.length (0 + 1) = 1 by omega]
    rfl
  | k + 1 => by
    have hp := h.pos
    show (if (My.wt ds (r.getD j 0) k).1 = r.getD j 0 then My.wt ds (r.getD j 0) k else (nx ds (My.wt ds (r.getD j 0) k).1, (My.wt ds (r.getD j 0) k).2 + 1)) = _
    rw [h.wt hj k]
    by_cases c : r.length ≤ k + 1
    · rw [show min r.length (k + 1) = r.length by omega, show min r.length (k + 1 + 1) = r.length by omega, if_pos ((h.back hj r.length).mpr (Nat.mod_self _))]
    · rw [show min r.length (k + 1) = k + 1 by omega, show min r.length (k + 1 + 1) = k + 1 + 1 by omega, if_neg fun e => by
        have := (h.back hj (k + 1)).mp e
        rw [Nat.mod_eq_of_lt (by omega)] at this
        omega]
      rfl
theorem IsRing.len_le {ds : List Int} {r : List Nat} (h : IsRing ds r) : r.length ≤ ds.length := nlen_le h.nd h.lt
theorem IsRing.per {ds : List Int} {r : List Nat} (h : IsRing ds r) {j : Nat} (hj : j < r.length) : My.per ds (r.getD j 0) = r.length := by
  unfold My.per
  rw [h.wt hj]
  have := h.len_le
  show min _ _ = _
  omega
def ringL (ds : List Int) (i : Nat) : List Nat := (List.range (per ds i)).map (orb ds i)
def ringsL (ds : List Int) : Nat → List (List Nat)
  | 0 => []
  | i + 1 => if i ∈ (ringsL ds i).flatten then ringsL ds i else ringsL ds i ++ [ringL ds i]
def track (ds : List Int) (i j : Nat) : List Nat := (List.range j).map (orb ds i)
theorem track_length (ds : List Int) (i j : Nat) : (track ds i j).length = j := by simp [track]
theorem track_getD (ds : List Int) (i : Nat) {j k : Nat} (h : k < j) : (track ds i j).getD k 0 = orb ds i k := by
  unfold track
  rw [List.getD_eq_getElem?_getD, List.getElem?_map, List.getElem?_range h]
  rfl
theorem track_succ (ds : List Int) (i j : Nat) : track ds i (j + 1) = track ds i j ++ [orb ds i j] := by
  unfold track
  rw [List.range_succ, List.map_append]
  rfl
/-- a walk that comes to a marked place is a ring -/
theorem ring_close {ds : List Int} (hs : Shf ds) {i j : Nat} (hi : i < ds.length) {F : List Nat} (hF : i ∉ F) (hb : ∀ x, x < ds.length → nx ds x ∈ F → x ∈ F) (nd : (F ++ track ds i j).Nodup) (hm : orb ds i j ∈ F ++ track ds i j) : IsRing ds (track ds i j) := by
  have ndt : (track ds i j).Nodup := (List.nodup_append.mp nd).2.1
  have nf : ∀ k, orb ds i k ∉ F := by
    intro k
    induction k with
    | zero => exact hF
    | succ k ih => exact fun h => ih (hb _ (orb_lt hs hi k) h)
  have m : orb ds i j ∈ track ds i j := by
    rcases List.mem_append.mp hm with h | h
    · exact absurd h (nf j)
    · exact h
  obtain ⟨k, hk, e⟩ := IsRing.mem (ds := ds) m
  rw [track_length] at hk
  rw [track_getD ds i hk] at e
  have back : orb ds i j = i := by
    cases k with
    | zero => exact e.symm
    | succ k =>
      obtain ⟨j', rfl⟩ : ∃ j', j = j' + 1 := ⟨j - 1, by omega⟩
      have e2 := nx_inj hs (orb_lt hs hi k) (orb_lt hs hi j') e
      have g1 : (track ds i (j' + 1))[k]? = some (orb ds i k) := by
        unfold track
        rw [List.getElem?_map, List.getElem?_range (by omega)]
        rfl
      have g2 : (track ds i (j' + 1))[j']? = some (orb ds i j') := by
        unfold track
        rw [List.getElem?_map, List.getElem?_range (by omega)]
        rfl
      have l1 : k < (track ds i (j' + 1)).length := by rw [track_length]; omega
      have : k = j' := (List.getElem?_inj l1 ndt).mp (by rw [g1, g2, e2])
      omega
  refine ⟨by rw [track_length]; omega, ndt, ?_, ?_⟩
  · intro x hx
    obtain ⟨t, _, rfl⟩ := List.mem_map.mp hx
    exact orb_lt hs hi t
  · intro t ht
    rw [track_length] at ht
    rw [track_length, track_getD ds i ht]
    by_cases c : t + 1 < j
    · rw [Nat.mod_eq_of_lt c, track_getD ds i c]
      rfl
    · have : t + 1 = j := by omega
      rw [this, Nat.mod_self, track_getD ds i (by omega)]
      have b2 : orb ds i (t + 1) = i := by rw [this]; exact back
      exact b2
structure Rings (ds : List Int) (R : List (List Nat)) (m : Nat) : Prop where
  ring : ∀ r ∈ R, IsRing ds r
  nd : R.flatten.Nodup
  all : ∀ i, i < m → i ∈ R.flatten
theorem Rings.lt {ds : List Int} {R : List (List Nat)} {m : Nat} (h : Rings ds R m) : ∀ i ∈ R.flatten, i < ds.length := fun i hi => by
  obtain ⟨r, hr, him⟩ := List.mem_flatten.mp hi
  exact (h.ring r hr).lt i him
theorem Rings.fro {ds : List Int} (hs : Shf ds) {R : List (List Nat)} {m : Nat} (h : Rings ds R m) (x : Nat) (hx : x < ds.length) (hm : nx ds x ∈ R.flatten) : x ∈ R.flatten := by
  obtain ⟨r, hr, him⟩ := List.mem_flatten.mp hm
  exact List.mem_flatten.mpr ⟨r, hr, (h.ring r hr).fro hs hx him⟩
theorem Rings.nil (ds : List Int) : Rings ds [] 0 := ⟨(fun _ h => nomatch h), List.nodup_nil, fun _ h => absurd h (Nat.not_lt_zero _)⟩
theorem Rings.skip {ds : List Int} {R : List (List Nat)} {m : Nat} (h : Rings ds R m) (hm : m ∈ R.flatten) : Rings ds R (m + 1) := ⟨h.ring, h.nd, fun i hi => by
  by_cases e : i = m
  · rw [e]
    exact hm
  · exact h.all i (by omega)⟩
theorem Rings.put {ds : List Int} {R : List (List Nat)} {m j : Nat} (h : Rings ds R m) (hr : IsRing ds (track ds m j)) (nd : (R.flatten ++ track ds m j).Nodup) : Rings ds (R ++ [track ds m j]) (m + 1) := by
  have ef : (R ++ [track ds m j]).flatten = R.flatten ++ track ds m j := by
    rw [List.flatten_append, List.flatten_singleton]
  refine ⟨fun r h1 => ?_, by rw [ef]; exact nd, fun i hi => ?_⟩
  · rcases List.mem_append.mp h1 with h1 | h1
    · exact h.ring r h1
    · rw [List.mem_singleton.mp h1]
      exact hr
  · rw [ef]
    by_cases e : i = m
    · refine List.mem_append_right _ (List.mem_map.mpr ⟨0, ?_, e.symm⟩)
      have := hr.pos
      rw [track_length] at this
      exact List.mem_range.mpr this
    · exact List.mem_append_left _ (h.all i (by omega))
theorem track_is {ds : List Int} {m j : Nat} (hr : IsRing ds (track ds m j)) : track ds m j = ringL ds m := by
  have p := hr.pos
  have e := hr.per p
  rw [track_length] at p e
  rw [track_getD ds m p] at e
  unfold ringL
  rw [show My.per ds m = j from e]
  rfl
/-- marked places -/
def marks (n : Nat) (M : List Nat) : List V := (List.range n).map fun i => V.bl (decide (i ∈ M))
theorem marks_nil (n : Nat) : (List.replicate n [V.bl false]).flatten = marks n [] := by
  unfold marks
  induction n with
  | zero => rfl
  | succ n ih =>
    rw [List.replicate_succ', List.flatten_append, ih, List.range_succ, List.map_append]
    rfl
theorem marks_at {n i : Nat} (M : List Nat) (h : i < n) : (marks n M)[i]? = some (.bl (decide (i ∈ M))) := by
  unfold marks
  rw [List.getElem?_map, List.getElem?_range h]
  rfl
theorem marks_set {n p : Nat} (M : List Nat) (h : p < n) : (marks n M).set p (.bl true) = marks n (M ++ [p]) := by
  refine List.ext_getElem? fun i => ?_
  by_cases hi : i < n
  · rw [marks_at _ hi]
    by_cases e : p = i
    · subst e
      rw [List.getElem?_set_self (by unfold marks; simpa using h)]
      simp
    · rw [List.getElem?_set_ne e, marks_at _ hi]
      have : i ∈ M ++ [p] ↔ i ∈ M := by
        rw [List.mem_append, List.mem_singleton]
        exact ⟨fun h => h.elim id fun h => absurd h.symm e, .inl⟩
      simp only [this]
  · rw [List.getElem?_eq_none (by rw [List.length_set]; unfold marks; rw [List.length_map, List.length_range]; omega), List.getElem?_eq_none (by unfold marks; rw [List.length_map, List.length_range]; omega)]
theorem marks_length (n : Nat) (M : List Nat) : (marks n M).length = n := by simp [marks]

/-- the rings of a shuffle, found -/
theorem orb_shift (ds : List Int) (i : Nat) (t : Nat) : orb ds (nx ds i) t = orb ds i (t + 1) := by
  rw [Nat.add_comm, orb_add]
  rfl
theorem rings_step {ds : List Int} (hs : Shf ds) {R : List (List Nat)} {i : Nat} (hi : i < ds.length) (rg : Rings ds R i) (hm : i ∉ R.flatten) : ∃ j, IsRing ds (track ds i j) ∧ (R.flatten ++ track ds i j).Nodup := by
  have M0 : R.flatten.length ≤ ds.length := nlen_le rg.nd rg.lt
  have go : ∀ m j, m + (R.flatten.length + j) = ds.length → (R.flatten ++ track ds i j).Nodup → ∃ j, IsRing ds (track ds i j) ∧ (R.flatten ++ track ds i j).Nodup := by
    intro m
    induction m with
    | zero =>
      intro j hj nd
      by_cases hmm : orb ds i j ∈ R.flatten ++ track ds i j
      · exact ⟨j, ring_close hs hi hm (rg.fro hs) nd hmm, nd⟩
      · have nd2 : (R.flatten ++ track ds i (j + 1)).Nodup := by
          rw [track_succ, ← List.append_assoc]
          refine List.nodup_append.mpr ⟨nd, List.pairwise_singleton _ _, fun x hx y hy e => ?_⟩
          rw [List.mem_singleton.mp hy] at e
          exact hmm (e ▸ hx)
        have lt2 : (R.flatten ++ track ds i (j + 1)).length ≤ ds.length := by
          refine nlen_le nd2 fun x hx => ?_
          rcases List.mem_append.mp hx with h | h
          · exact rg.lt x h
          · obtain ⟨t, _, rfl⟩ := List.mem_map.mp h
            exact orb_lt hs hi t
        rw [List.length_append, track_length] at lt2
        omega
    | succ m ih =>
      intro j hj nd
      by_cases hmm : orb ds i j ∈ R.flatten ++ track ds i j
      · exact ⟨j, ring_close hs hi hm (rg.fro hs) nd hmm, nd⟩
      · refine ih (j + 1) (by omega) ?_
        rw [track_succ, ← List.append_assoc]
        refine List.nodup_append.mpr ⟨nd, List.pairwise_singleton _ _, fun x hx y hy e => ?_⟩
        rw [List.mem_singleton.mp hy] at e
        exact hmm (e ▸ hx)
  refine go (ds.length - R.flatten.length) 0 (by omega) ?_
  show (R.flatten ++ []).Nodup
  rw [List.append_nil]
  exact rg.nd
theorem rings_upto {ds : List Int} (hs : Shf ds) : ∀ i, i ≤ ds.length → Rings ds (ringsL ds i) i
  | 0, _ => Rings.nil ds
  | i + 1, hi => by
    have rg := rings_upto hs i (by omega)
    by_cases hm : i ∈ (ringsL ds i).flatten
    · rw [show ringsL ds (i + 1) = ringsL ds i from if_pos hm]
      exact rg.skip hm
    · rw [show ringsL ds (i + 1) = ringsL ds i ++ [ringL ds i] from if_neg hm]
      obtain ⟨j, hr, nd⟩ := rings_step hs (show i < ds.length by omega) rg hm
      rw [← track_is hr]
      exact rg.put hr nd
theorem rings_of {ds : List Int} (hs : Shf ds) : Rings ds (ringsL ds ds.length) ds.length := rings_upto hs _ (Nat.le_refl _)

/-! ### how many are back -/
theorem Rings.perm {ds : List Int} (hs : Shf ds) (h : Rings ds R ds.length) : R.flatten.Perm (List.range ds.length) :=
  (List.perm_ext_iff_of_nodup h.nd List.nodup_range).mpr fun i => ⟨fun m => List.mem_range.mpr (h.lt i m), fun m => h.all i (List.mem_range.mp m)⟩
def lensL (ds : List Int) : List Int := (up ((ringsL ds ds.length).map List.length)).mergeSort (fun a b => decide (a ≤ b))
theorem lens_perm (ds : List Int) : (up ((ringsL ds ds.length).map List.length)).Perm (lensL ds) := (List.mergeSort_perm _ _).symm
theorem lens_sorted (ds : List Int) : (lensL ds).Pairwise (· ≤ ·) := by
  have h := List.pairwise_mergeSort (le := fun a b : Int => decide (a ≤ b)) (fun a b c x y => decide_eq_true (Int.le_trans (of_decide_eq_true x) (of_decide_eq_true y))) (fun a b => by
    rcases Int.le_total a b with h | h
    · simp [h]
    · simp [h]) (up ((ringsL ds ds.length).map List.length))
  exact h.imp fun h => of_decide_eq_true h
theorem lens_mem {ds : List Int} (h : Rings ds (ringsL ds ds.length) ds.length) {l : Int} (hl : l ∈ lensL ds) : 1 ≤ l ∧ l ≤ ds.length := by
  obtain ⟨k, hk, rfl⟩ := List.mem_map.mp ((lens_perm ds).mem_iff.mpr hl)
  obtain ⟨r, hr, rfl⟩ := List.mem_map.mp hk
  have := (h.ring r hr).pos
  have := (h.ring r hr).len_le
  omega
theorem lens_length (ds : List Int) : (lensL ds).length = (ringsL ds ds.length).length := by
  rw [← (lens_perm ds).length_eq, up_length, List.length_map]
theorem rings_length {ds : List Int} (h : Rings ds (ringsL ds ds.length) ds.length) : (ringsL ds ds.length).length ≤ ds.length :=
  Nat.le_trans (rings_le fun r hr => (h.ring r hr).pos) (nlen_le h.nd h.lt)
def cnt (ds : List Int) (t : Nat) : Nat := ((List.range ds.length).filter fun k => decide (orb ds k t = k)).length
theorem ring_cnt {ds : List Int} {r : List Nat} (h : IsRing ds r) (t : Nat) : (r.filter fun k => decide (orb ds k t = k)).length = if t % r.length = 0 then r.length else 0 := by
  by_cases c : t % r.length = 0
  · rw [if_pos c, List.filter_eq_self.mpr]
    intro k hk
    obtain ⟨j, hj, rfl⟩ := IsRing.mem (ds := ds) hk
    exact decide_eq_true ((h.back hj t).mpr c)
  · rw [if_neg c, List.filter_eq_nil_iff.mpr]
    · rfl
    intro k hk
    obtain ⟨j, hj, rfl⟩ := IsRing.mem (ds := ds) hk
    intro e
    exact c ((h.back hj t).mp (of_decide_eq_true e))
theorem rings_cnt {ds : List Int} (t : Nat) : ∀ {R : List (List Nat)}, (∀ r ∈ R, IsRing ds r) → ((R.flatten.filter fun k => decide (orb ds k t = k)).length : Int) = ((up (R.map List.length)).filter fun l => decide ((t : Int) % l = 0)).sum
  | [], _ => rfl
  | r :: R, h => by
    have ih := rings_cnt t (R := R) fun r hr => h r (List.mem_cons_of_mem _ hr)
    have hr := ring_cnt (h r List.mem_cons_self) t
    have e : ((t : Int) % (r.length : Int) = 0) ↔ t % r.length = 0 := by
      rw [← Int.natCast_emod]
      omega
    rw [List.flatten_cons, List.filter_append, List.length_append, hr, Int.natCast_add, ih]
    show _ = (((r.length : Int) :: up (R.map List.length)).filter fun l => decide ((t : Int) % l = 0)).sum
    rw [List.filter_cons]
    by_cases c : t % r.length = 0
    · rw [if_pos c, if_pos (decide_eq_true (e.mpr c)), List.sum_cons]
    · rw [if_neg c, if_neg (by simpa using fun x => c (e.mp x))]
      omega
theorem back_cnt {ds : List Int} (hs : Shf ds) (h : Rings ds (ringsL ds ds.length) ds.length) (t : Nat) : ((lensL ds).filter fun l => decide ((t : Int) % l = 0)).sum = (cnt ds t : Int) := by
  rw [← perm_sum ((lens_perm ds).filter _), ← rings_cnt t h.ring]
  unfold cnt
  rw [((h.perm hs).filter _).length_eq]
def backL (ds : List Int) (m : Nat) : List Nat := (List.range m).map fun t => cnt ds (t + 1)
theorem cnt_le (ds : List Int) (t : Nat) : cnt ds t ≤ ds.length := by
  have := List.length_filter_le (fun k => decide (orb ds k t = k)) (List.range ds.length)
  rw [List.length_range] at this
  exact this

/-! ### turned -/
theorem per_ring {ds : List Int} (hs : Shf ds) {i : Nat} (hi : i < ds.length) : ∃ r j, IsRing ds r ∧ j < r.length ∧ r.getD j 0 = i ∧ per ds i = r.length := by
  have rg := rings_of hs
  obtain ⟨r, hr, him⟩ := List.mem_flatten.mp (rg.all i hi)
  obtain ⟨j, hj, rfl⟩ := IsRing.mem (ds := ds) him
  exact ⟨r, j, rg.ring r hr, hj, rfl, (rg.ring r hr).per hj⟩
theorem per_pos {ds : List Int} (hs : Shf ds) {i : Nat} (hi : i < ds.length) : 1 ≤ per ds i ∧ per ds i ≤ ds.length := by
  obtain ⟨r, j, hr, hj, _, e⟩ := per_ring hs hi
  have := hr.pos
  have := hr.len_le
  omega
theorem orb_back {ds : List Int} (hs : Shf ds) {i : Nat} (hi : i < ds.length) (t : Nat) : orb ds i t = i ↔ t % per ds i = 0 := by
  obtain ⟨r, j, hr, hj, rfl, e⟩ := per_ring hs hi
  rw [e]
  exact hr.back hj t
theorem orb_mod {ds : List Int} (hs : Shf ds) {i : Nat} (hi : i < ds.length) (t : Nat) : orb ds i (t % per ds i) = orb ds i t := by
  obtain ⟨r, j, hr, hj, rfl, e⟩ := per_ring hs hi
  rw [e, hr.orb hj, hr.orb hj, Nat.add_mod_mod]
def tn (ds : List Int) (t : Int) (i : Nat) : Nat := orb ds i (t % (per ds i : Int)).toNat
theorem tn_lt {ds : List Int} (hs : Shf ds) (t : Int) {i : Nat} (hi : i < ds.length) : tn ds t i < ds.length := orb_lt hs hi _
theorem tn_nat {ds : List Int} (hs : Shf ds) (t : Nat) {i : Nat} (hi : i < ds.length) : tn ds (t : Int) i = orb ds i t := by
  unfold tn
  rw [← Int.natCast_emod, Int.toNat_natCast, orb_mod hs hi]
theorem tn_ring {ds : List Int} {r : List Nat} (h : IsRing ds r) (t : Int) {j : Nat} (hj : j < r.length) : r.getD (((j : Int) + t) % (r.length : Int)).toNat 0 = tn ds t (r.getD j 0) := by
  have p := h.pos
  unfold tn
  rw [h.per hj, h.orb hj]
  congr 1
  have h0 := Int.emod_nonneg t (show (r.length : Int) ≠ 0 by omega)
  have e : (((j + (t % (r.length : Int)).toNat) % r.length : Nat) : Int) = ((j : Int) + t) % (r.length : Int) := by
    rw [Int.natCast_emod, Int.natCast_add, Int.toNat_of_nonneg h0, Int.add_emod_emod]
  omega
theorem tn_step {ds : List Int} (hs : Shf ds) (t : Int) {i : Nat} (hi : i < ds.length) : nx ds (tn ds t i) = tn ds (t + 1) i := by
  obtain ⟨p1, _⟩ := per_pos hs hi
  have h0 := Int.emod_nonneg t (show (per ds i : Int) ≠ 0 by omega)
  unfold tn
  show orb ds i ((t % (per ds i : Int)).toNat + 1) = _
  rw [← orb_mod hs hi]
  congr 1
  have e : ((((t % (per ds i : Int)).toNat + 1) % per ds i : Nat) : Int) = (t + 1) % (per ds i : Int) := by
    rw [Int.natCast_emod, Int.natCast_add, Int.toNat_of_nonneg h0]
    exact Int.emod_add_emod _ _ _
  omega
def turnL (ds : List Int) (t : Int) : List Int := (List.range ds.length).map fun i => (tn ds t i : Int)
theorem turn_length (ds : List Int) (t : Int) : (turnL ds t).length = ds.length := by simp [turnL]
theorem turn_end' {ds F : List Int} {t : Int} (h1 : F.length = ds.length) (h : ∀ i, i < ds.length → F.getD i 0 = (tn ds t i : Int)) : F = turnL ds t := by
  refine List.ext_getElem? fun i => ?_
  unfold turnL
  rw [List.getElem?_map]
  by_cases hi : i < ds.length
  · have := h i hi
    rw [List.getD_eq_getElem?_getD, List.getElem?_eq_getElem (show i < F.length by omega)] at this
    rw [List.getElem?_range hi, List.getElem?_eq_getElem (show i < F.length by omega)]
    exact congrArg some this
  · rw [List.getElem?_eq_none (show F.length ≤ i by omega), List.getElem?_eq_none (by rw [List.length_range]; omega)]
    rfl
theorem turn_wide {ds : List Int} (hs : Shf ds) (t : Int) : wide 1900 (turnL ds t) ∧ (turnL ds t).length ≤ 4000 := by
  have h3 := hs.2.1
  refine ⟨(wide_lt (k := 20) (by decide) fun n hn => ?_).mono (by decide), by rw [turn_length]; omega⟩
  obtain ⟨i, hi, rfl⟩ := List.mem_map.mp hn
  have := tn_lt hs t (List.mem_range.mp hi)
  omega
theorem up_at {r : List Nat} {j : Nat} (h : j < r.length) : (vi (up r))[j]? = some (.int (r.getD j 0 : Int)) := by
  unfold vi up
  rw [List.getElem?_map, List.getElem?_map, List.getElem?_eq_getElem h, getD_of h]
  rfl
theorem set_getD {F : List Int} {k j : Nat} {x : Int} (h : k < F.length) : (F.set k x).getD j 0 = if j = k then x else F.getD j 0 := by
  rw [List.getD_eq_getElem?_getD, List.getD_eq_getElem?_getD]
  by_cases c : j = k
  · rw [if_pos c, c, List.getElem?_set_self h]
    rfl
  · rw [if_neg c, List.getElem?_set_ne (Ne.symm c)]
theorem take_flat {R : List (List Nat)} {i : Nat} {r : List Nat} (h : R[i]? = some r) : (R.take (i + 1)).flatten = (R.take i).flatten ++ r := by
  rw [List.take_add_one, h, List.flatten_append]
  show _ ++ (r ++ []) = _
  rw [List.append_nil]

/-! ### tables of numbers -/
def tabL (m : Nat) (f : Nat → Int) : List Int := (List.range m).map f
theorem tab_length (m : Nat) (f : Nat → Int) : (tabL m f).length = m := by simp [tabL]
theorem tab_get {m : Nat} {f : Nat → Int} {i : Nat} (h : i < m) : (tabL m f)[i]? = some (f i) := by
  unfold tabL
  rw [List.getElem?_map, List.getElem?_range h]
  rfl
theorem tab_at {m : Nat} {f : Nat → Int} {i : Nat} (h : i < m) : (vi (tabL m f))[i]? = some (.int (f i)) := by
  unfold vi
  rw [List.getElem?_map, tab_get h]
  rfl
theorem tab_getD {m : Nat} {f : Nat → Int} {i : Nat} (h : i < m) : (tabL m f).getD i 0 = f i := by
  rw [List.getD_eq_getElem?_getD, tab_get h]
  rfl
theorem tab_congr {m : Nat} {f g : Nat → Int} (h : ∀ i, i < m → f i = g i) : tabL m f = tabL m g := List.map_congr_left fun i hi => h i (List.mem_range.mp hi)
theorem tab_set {m : Nat} {f : Nat → Int} {j : Nat} {v : Int} (h : j < m) : (tabL m f).set j v = tabL m fun i => if i = j then v else f i := by
  refine List.ext_getElem? fun i => ?_
  by_cases hi : i < m
  · rw [tab_get hi]
    by_cases c : i = j
    · rw [c, List.getElem?_set_self (by rw [tab_length]; exact h), if_pos rfl]
    · rw [List.getElem?_set_ne (Ne.symm c), tab_get hi, if_neg c]
  · rw [List.getElem?_eq_none (by rw [List.length_set, tab_length]; omega), List.getElem?_eq_none (by rw [tab_length]; omega)]
theorem tab_self (r : List Int) : tabL r.length (fun i => r.getD i 0) = r := by
  refine List.ext_getElem? fun i => ?_
  by_cases hi : i < r.length
  · rw [tab_get hi, List.getElem?_eq_getElem hi, List.getD_eq_getElem?_getD, List.getElem?_eq_getElem hi]
    rfl
  · rw [List.getElem?_eq_none (by rw [tab_length]; omega), List.getElem?_eq_none (by omega)]
theorem tab_zero (m : Nat) : List.replicate m (0 : Int) = tabL m fun _ => 0 := by
  refine List.ext_getElem? fun i => ?_
  rw [List.getElem?_replicate]
  by_cases hi : i < m
  · rw [tab_get hi, if_pos hi]
  · rw [if_neg hi, List.getElem?_eq_none (by rw [tab_length]; omega)]
theorem given_tab (m : Nat) (f : Nat → Int) : given m (fun _ => true) (fun i => V.int (f i)) = vi (tabL m f) := given_ints _ _
/-! ### the row of counts -/
def part (c : List Int) (i : Nat) : Nat → Int
  | 0 => 0
  | k + 1 => part c i k + (if (i + 1) % (k + 1) = 0 then ((k + 1 : Nat) : Int) * c.getD k 0 else 0)
def rowL (c : List Int) : List Int := tabL c.length fun i => part c i (i + 1)
theorem rowL_length (c : List Int) : (rowL c).length = c.length := tab_length _ _
theorem part_stay (c : List Int) (i : Nat) {k : Nat} (h : i + 1 ≤ k) : part c i k = part c i (i + 1) := by
  induction k with
  | zero => omega
  | succ k ih =>
    by_cases e : i = k
    · rw [e]
    · show part c i k + (if (i + 1) % (k + 1) = 0 then _ else 0) = _
      rw [if_neg (by rw [Nat.mod_eq_of_lt (by omega)]; omega), ih (by omega), Int.add_zero]
/-- j is the t-th multiple of n -/
theorem mul_ix {n t i : Nat} (hn : 0 < n) (h : (i + 1) % n = 0) : (i + 1) / n ≤ t + 1 ↔ (i + 1) / n ≤ t ∨ i + 1 = n * (t + 1) := by
  have e := Nat.div_add_mod (i + 1) n
  rw [h, Nat.add_zero] at e
  constructor
  · intro k
    by_cases c : (i + 1) / n ≤ t
    · exact .inl c
    · right
      rw [← e, show (i + 1) / n = t + 1 by omega]
  · rintro (k | k)
    · omega
    · rw [k, Nat.mul_div_cancel_left _ hn]
      exact Nat.le_refl _
theorem mul_mod {n t : Nat} (hn : 0 < n) : (n * (t + 1) - 1 + 1) % n = 0 ∧ (n * (t + 1) - 1 + 1) / n = t + 1 := by
  have : 0 < n * (t + 1) := Nat.mul_pos hn (Nat.succ_pos t)
  rw [show n * (t + 1) - 1 + 1 = n * (t + 1) by omega]
  exact ⟨Nat.mul_mod_right _ _, Nat.mul_div_cancel_left _ hn⟩
/-! ### new numbers -/
def sub (r : List Int) : Nat → Nat → Int
  | 0, i => r.getD i 0
  | k + 1, i => sub r k i - (if k < i ∧ (i + 1) % (k + 1) = 0 then sub r k k else 0)
def newL (r : List Int) : List Int := tabL r.length (sub r r.length)
theorem newL_length (r : List Int) : (newL r).length = r.length := tab_length _ _
theorem sub_row (c : List Int) (k : Nat) : ∀ i, i < c.length → sub (rowL c) k i = part c i (i + 1) - part c i (min k i) := by
  induction k with
  | zero =>
    intro i hi
    show (rowL c).getD i 0 = _
    rw [Nat.zero_min]
    unfold rowL
    rw [tab_getD hi]
    show _ = _ - (0 : Int)
    omega
  | succ k ih =>
    intro i hi
    show sub (rowL c) k i - (if k < i ∧ (i + 1) % (k + 1) = 0 then sub (rowL c) k k else 0) = _
    rw [ih i hi]
    by_cases h : k < i
    · rw [show min (k + 1) i = k + 1 by omega, show min k i = k by omega]
      have ek : part c i (k + 1) = part c i k + (if (i + 1) % (k + 1) = 0 then ((k + 1 : Nat) : Int) * c.getD k 0 else 0) := rfl
      by_cases h2 : (i + 1) % (k + 1) = 0
      · have e3 : part c k (k + 1) = part c k k + (if (k + 1) % (k + 1) = 0 then ((k + 1 : Nat) : Int) * c.getD k 0 else 0) := rfl
        rw [if_pos (Nat.mod_self _)] at e3
        rw [if_pos h2] at ek
        rw [if_pos ⟨h, h2⟩, ih k (by omega), Nat.min_self, ek, e3]
        omega
      · rw [if_neg h2] at ek
        rw [if_neg fun z => h2 z.2, ek]
        omega
    · rw [if_neg fun z => h z.1, show min (k + 1) i = i by omega, show min k i = i by omega]
      omega
theorem new_row (c : List Int) : newL (rowL c) = tabL c.length fun i => ((i + 1 : Nat) : Int) * c.getD i 0 := by
  unfold newL
  rw [rowL_length]
  refine tab_congr fun i hi => ?_
  rw [sub_row c _ i hi, show min c.length i = i by omega]
  have e3 : part c i (i + 1) = part c i i + (if (i + 1) % (i + 1) = 0 then ((i + 1 : Nat) : Int) * c.getD i 0 else 0) := rfl
  rw [if_pos (Nat.mod_self _)] at e3
  rw [e3]
  omega
/-- no bar -/
def Free (r : List Int) : Prop := ∀ i, i < r.length → ∃ q : Int, 0 ≤ q ∧ (newL r).getD i 0 = ((i + 1 : Nat) : Int) * q
theorem free_row {c : List Int} (h : ∀ n ∈ c, 0 ≤ n) : Free (rowL c) := fun i hi => by
  rw [rowL_length] at hi
  refine ⟨c.getD i 0, ?_, by rw [new_row, tab_getD hi]⟩
  rw [List.getD_eq_getElem?_getD, List.getElem?_eq_getElem hi]
  exact h _ (List.getElem_mem hi)
def ringsR (r : List Int) : List Int := tabL r.length fun i => (newL r).getD i 0 / ((i + 1 : Nat) : Int)
theorem rings_row (c : List Int) : ringsR (rowL c) = c := by
  unfold ringsR
  rw [rowL_length]
  refine (tab_congr fun i hi => ?_).trans (tab_self c)
  rw [new_row, tab_getD hi, Int.mul_ediv_cancel_left _ (by omega)]
def addL (xs ys : List Int) : List Int := tabL (min xs.length ys.length) fun i => xs.getD i 0 + ys.getD i 0
theorem getD_at {xs : List Int} {i : Nat} (h : i < xs.length) : (vi xs)[i]? = some (.int (xs.getD i 0)) := by
  rw [vi_at h, List.getD_eq_getElem?_getD, List.getElem?_eq_getElem h]
  rfl

/-! ### rows of shuffles -/
def cntL (L : List Int) (m : Nat) : List Int := tabL m fun k => (L.count ((k + 1 : Nat) : Int) : Int)
theorem part_cons (l : Int) (L : List Int) (m i : Nat) (hl : 1 ≤ l) : ∀ k, k ≤ m → part (cntL (l :: L) m) i k = part (cntL L m) i k + (if l ≤ k ∧ ((i + 1 : Nat) : Int) % l = 0 then l else 0)
  | 0, _ => by
    rw [if_neg (by omega)]
    rfl
  | k + 1, h => by
    show part (cntL (l :: L) m) i k + (if (i + 1) % (k + 1) = 0 then ((k + 1 : Nat) : Int) * (cntL (l :: L) m).getD k 0 else 0) = part (cntL L m) i k + (if (i + 1) % (k + 1) = 0 then ((k + 1 : Nat) : Int) * (cntL L m).getD k 0 else 0) + _
    have e1 : (cntL (l :: L) m).getD k 0 = ((l :: L).count ((k + 1 : Nat) : Int) : Int) := tab_getD (by omega)
    have e2 : (cntL L m).getD k 0 = (L.count ((k + 1 : Nat) : Int) : Int) := tab_getD (by omega)
    rw [part_cons l L m i hl k (by omega), e1, e2, List.count_cons]
    by_cases c : l = ((k + 1 : Nat) : Int)
    · rw [if_neg (by omega)]
      have e3 : ((i + 1 : Nat) : Int) % l = 0 ↔ (i + 1) % (k + 1) = 0 := by
        rw [c, ← Int.natCast_emod]
        omega
      rw [show (if (l == ((k + 1 : Nat) : Int)) = true then 1 else 0) = 1 from if_pos (by rw [c]; exact beq_self_eq_true _)]
      by_cases d : (i + 1) % (k + 1) = 0
      · rw [if_pos d, if_pos d, if_pos ⟨by omega, e3.mpr d⟩, show ((L.count ((k + 1 : Nat) : Int) + 1 : Nat) : Int) = (L.count ((k + 1 : Nat) : Int) : Int) + 1 from rfl, Int.mul_add, Int.mul_one, ← c]
        omega
      · rw [if_neg d, if_neg d, if_neg fun z => d (e3.mp z.2)]
    · rw [if_neg (show ¬ ((l == ((k + 1 : Nat) : Int)) = true) by simpa using c)]
      have e4 : (l ≤ (k : Int) ∧ ((i + 1 : Nat) : Int) % l = 0) ↔ (l ≤ ((k + 1 : Nat) : Int) ∧ ((i + 1 : Nat) : Int) % l = 0) := ⟨fun z => ⟨by omega, z.2⟩, fun z => ⟨by omega, z.2⟩⟩
      simp only [e4, Nat.add_zero]
      omega
theorem part_filter (m i : Nat) (hi : i < m) : ∀ {L : List Int}, (∀ l ∈ L, 1 ≤ l) → (L.filter fun l => decide (((i + 1 : Nat) : Int) % l = 0)).sum = part (cntL L m) i (i + 1)
  | [], _ => by
    have : ∀ k, k ≤ m → part (cntL [] m) i k = 0 := by
      intro k
      induction k with
      | zero => intro _; rfl
      | succ k ih =>
        intro h
        have e : (cntL [] m).getD k 0 = 0 := tab_getD (by omega)
        show part (cntL [] m) i k + (if (i + 1) % (k + 1) = 0 then ((k + 1 : Nat) : Int) * (cntL [] m).getD k 0 else 0) = 0
        rw [ih (by omega), e, Int.mul_zero]
        split <;> rfl
    rw [this _ (by omega)]
    rfl
  | l :: L, h => by
    have hl := h l List.mem_cons_self
    rw [part_cons l L m i hl (i + 1) (by omega), ← part_filter m i hi fun x hx => h x (List.mem_cons_of_mem _ hx), List.filter_cons]
    by_cases d : ((i + 1 : Nat) : Int) % l = 0
    · have hle : l ≤ ((i + 1 : Nat) : Int) := Int.le_of_dvd (by omega) (Int.dvd_of_emod_eq_zero d)
      rw [if_pos (decide_eq_true d), if_pos ⟨hle, d⟩, List.sum_cons]
      omega
    · rw [if_neg (by simpa using d), if_neg fun z => d z.2, Int.add_zero]
theorem back_rowL {ds : List Int} (hs : Shf ds) (m : Nat) : up (backL ds m) = rowL (cntL (lensL ds) m) := by
  have rg := rings_of hs
  unfold rowL cntL
  rw [tab_length]
  unfold up backL
  rw [List.map_map]
  refine List.map_congr_left fun i hi => ?_
  have hi := List.mem_range.mp hi
  show (cnt ds (i + 1) : Int) = _
  rw [← back_cnt hs rg (i + 1)]
  exact part_filter m i hi fun l hl => (lens_mem rg hl).1
theorem back_at {ds : List Int} {m i : Nat} (h : i < m) : (up (backL ds m)).getD i 0 = (cnt ds (i + 1) : Int) := by
  unfold up backL
  rw [List.map_map, List.getD_eq_getElem?_getD, List.getElem?_map, List.getElem?_range h]
  rfl
theorem back_length (ds : List Int) (m : Nat) : (up (backL ds m)).length = m := by simp [up, backL]
theorem back_tab (ds : List Int) (m : Nat) : up (backL ds m) = tabL m fun i => (cnt ds (i + 1) : Int) := by
  unfold up backL tabL
  rw [List.map_map]
  rfl
/-! beside -/
theorem orb_bes1 {xs : List Int} (ys : List Int) (hx : Shf xs) {k : Nat} (hk : k < xs.length) : ∀ t, orb (besL xs ys) k t = orb xs k t
  | 0 => rfl
  | t + 1 => by
    show nx (besL xs ys) (orb (besL xs ys) k t) = nx xs (orb xs k t)
    have ho := orb_lt hx hk t
    rw [orb_bes1 ys hx hk t]
    unfold nx
    rw [List.getD_eq_getElem?_getD, bes_at xs ys ho]
    rfl
theorem orb_bes2 (xs : List Int) {ys : List Int} (hy : Shf ys) {k : Nat} (hk : k < ys.length) : ∀ t, orb (besL xs ys) (xs.length + k) t = xs.length + orb ys k t
  | 0 => rfl
  | t + 1 => by
    show nx (besL xs ys) (orb (besL xs ys) (xs.length + k) t) = xs.length + nx ys (orb ys k t)
    have ho := orb_lt hy hk t
    rw [orb_bes2 xs hy hk t]
    have e := nx_get hy ho
    unfold nx at *
    rw [List.getD_eq_getElem?_getD, bes_at' xs ys ho]
    show ((xs.length : Int) + ys.getD (orb ys k t) 0).toNat = _
    rw [e]
    omega
theorem cnt_bes {xs ys : List Int} (hx : Shf xs) (hy : Shf ys) (t : Nat) : cnt (besL xs ys) t = cnt xs t + cnt ys t := by
  unfold cnt
  rw [besL_length, List.range_add, List.filter_append, List.length_append, List.filter_map, List.length_map]
  congr 2
  · refine List.filter_congr fun k hk => ?_
    rw [orb_bes1 ys hx (List.mem_range.mp hk)]
  · refine List.filter_congr fun k hk => ?_
    show decide (orb (besL xs ys) (xs.length + k) t = xs.length + k) = _
    rw [orb_bes2 xs hy (List.mem_range.mp hk)]
    refine decide_eq_decide.mpr ⟨fun h => by omega, fun h => by omega⟩
/-! paired -/
theorem pair_count (m : Nat) (hm : 0 < m) (p q : Nat → Bool) : ∀ n, ((List.range (n * m)).filter fun k => p (k / m) && q (k % m)).length = ((List.range n).filter p).length * ((List.range m).filter q).length
  | 0 => by simp
  | n + 1 => by
    rw [Nat.succ_mul, List.range_add, List.filter_append, List.length_append, pair_count m hm p q n, List.filter_map, List.length_map, List.range_succ, List.filter_append, List.length_append, Nat.add_mul]
    congr 1
    have e : ((List.range m).filter ((fun k => p (k / m) && q (k % m)) ∘ fun x => n * m + x)) = (List.range m).filter fun x => p n && q x := by
      refine List.filter_congr fun x hx => ?_
      have hx := List.mem_range.mp hx
      show (p ((n * m + x) / m) && q ((n * m + x) % m)) = _
      rw [Nat.mul_comm n m, Nat.mul_add_div hm, Nat.div_eq_of_lt hx, Nat.add_zero, Nat.mul_add_mod, Nat.mod_eq_of_lt hx]
    rw [e, List.filter_cons]
    cases hp : p n with
    | true => simp
    | false => simp
theorem pairL_nx {xs ys : List Int} (hx : Shf xs) (hy : Shf ys) {i j : Nat} (hi : i < xs.length) (hj : j < ys.length) : nx (pairL xs ys) (i * ys.length + j) = nx xs i * ys.length + nx ys j := by
  have hy0 := hy.1
  have hlt : i * ys.length + j < xs.length * ys.length := by
    have : (i + 1) * ys.length ≤ xs.length * ys.length := Nat.mul_le_mul_right _ hi
    rw [Nat.succ_mul] at this
    omega
  unfold nx
  rw [pairL_getD hlt, Nat.mul_comm i, Nat.mul_add_div hy0, Nat.div_eq_of_lt hj, Nat.add_zero, Nat.mul_add_mod, Nat.mod_eq_of_lt hj, nx_get hx hi, nx_get hy hj, ← Int.natCast_mul, ← Int.natCast_add, Int.toNat_natCast, Int.toNat_natCast, Int.toNat_natCast]
theorem orb_pair {xs ys : List Int} (hx : Shf xs) (hy : Shf ys) {i j : Nat} (hi : i < xs.length) (hj : j < ys.length) : ∀ t, orb (pairL xs ys) (i * ys.length + j) t = orb xs i t * ys.length + orb ys j t
  | 0 => rfl
  | t + 1 => by
    show nx (pairL xs ys) (orb (pairL xs ys) (i * ys.length + j) t) = nx xs (orb xs i t) * ys.length + nx ys (orb ys j t)
    rw [orb_pair hx hy hi hj t, pairL_nx hx hy (orb_lt hx hi t) (orb_lt hy hj t)]
theorem cnt_pair {xs ys : List Int} (hx : Shf xs) (hy : Shf ys) (t : Nat) : cnt (pairL xs ys) t = cnt xs t * cnt ys t := by
  have hy0 := hy.1
  unfold cnt
  rw [pairL_length, ← pair_count ys.length hy0 (fun k => decide (orb xs k t = k)) (fun k => decide (orb ys k t = k))]
  congr 1
  refine List.filter_congr fun k hk => ?_
  have hk := List.mem_range.mp hk
  have hd : k / ys.length < xs.length := Nat.div_lt_of_lt_mul (by rw [Nat.mul_comm]; exact hk)
  have hm : k % ys.length < ys.length := Nat.mod_lt _ hy0
  have e : k = k / ys.length * ys.length + k % ys.length := by
    rw [Nat.mul_comm]
    exact (Nat.div_add_mod k ys.length).symm
  have h1 := orb_pair hx hy hd hm t
  have o1 := orb_lt hy hm t
  rw [← e] at h1
  rw [h1, ← Bool.decide_and]
  refine decide_eq_decide.mpr ⟨fun h => ?_, fun h => ?_⟩
  · have a1 : (orb xs (k / ys.length) t * ys.length + orb ys (k % ys.length) t) / ys.length = k / ys.length := by rw [h]
    have a2 : (orb xs (k / ys.length) t * ys.length + orb ys (k % ys.length) t) % ys.length = k % ys.length := by rw [h]
    rw [Nat.mul_comm, Nat.mul_add_div hy0, Nat.div_eq_of_lt o1, Nat.add_zero] at a1
    rw [Nat.mul_comm, Nat.mul_add_mod, Nat.mod_eq_of_lt o1] at a2
    exact ⟨a1, a2⟩
  · rw [h.1, h.2]
    exact e.symm
/-! turned -/
theorem turn_shf {ds : List Int} (hs : Shf ds) (s : Int) : Shf (turnL ds s) := by
  refine ⟨by rw [turn_length]; exact hs.1, by rw [turn_length]; exact hs.2.1, ?_⟩
  rw [turn_length]
  refine perm_iota ?_ ?_ (turn_length ds s)
  · show List.Pairwise _ _
    unfold turnL
    refine List.pairwise_map.mpr (List.Pairwise.imp_of_mem ?_ List.nodup_range)
    intro i j hi hj hne e
    have hi := List.mem_range.mp hi
    have hj := List.mem_range.mp hj
    have e2 : tn ds s i = tn ds s j := by omega
    -- both lie on one ring
    have back : ∀ k, k < ds.length → tn ds (-s) (tn ds s k) = k := by
      intro k hk
      obtain ⟨r, j0, ir, hj0, rfl, hp⟩ := per_ring hs hk
      have p := ir.pos
      have m0 := Int.emod_nonneg ((j0 : Int) + s) (show (r.length : Int) ≠ 0 by omega)
      have m1 : ((j0 : Int) + s) % (r.length : Int) < r.length := Int.emod_lt_of_pos _ (by omega)
      rw [← tn_ring ir s hj0, ← tn_ring ir (-s) (show (((j0 : Int) + s) % (r.length : Int)).toNat < r.length by omega), Int.toNat_of_nonneg m0, Int.emod_add_emod, show (j0 : Int) + s + -s = j0 by omega, Int.emod_eq_of_lt (by omega) (by omega), Int.toNat_natCast]
    exact hne (by rw [← back i hi, e2, back j hj])
  · intro x hx
    obtain ⟨i, hi, rfl⟩ := List.mem_map.mp hx
    have := tn_lt hs s (List.mem_range.mp hi)
    omega
theorem orb_turn {ds : List Int} (hs : Shf ds) (s : Nat) {k : Nat} (hk : k < ds.length) : ∀ t, orb (turnL ds (s : Int)) k t = orb ds k (s * t)
  | 0 => rfl
  | t + 1 => by
    show nx (turnL ds (s : Int)) (orb (turnL ds (s : Int)) k t) = _
    have ho := orb_lt hs hk (s * t)
    rw [orb_turn hs s hk t, Nat.mul_succ, orb_add]
    unfold nx turnL
    rw [List.getD_eq_getElem?_getD, List.getElem?_map, List.getElem?_range ho]
    show ((tn ds (s : Int) (orb ds k (s * t)) : Nat) : Int).toNat = _
    rw [Int.toNat_natCast, tn_nat hs s ho]
theorem cnt_turn {ds : List Int} (hs : Shf ds) (s t : Nat) : cnt (turnL ds (s : Int)) t = cnt ds (s * t) := by
  unfold cnt
  rw [turn_length]
  congr 1
  refine List.filter_congr fun k hk => ?_
  rw [orb_turn hs s (List.mem_range.mp hk)]
/-! all back -/
theorem per_mem {ds : List Int} (hs : Shf ds) {i : Nat} (hi : i < ds.length) : (per ds i : Int) ∈ lensL ds := by
  have rg := rings_of hs
  obtain ⟨r, hr, him⟩ := List.mem_flatten.mp (rg.all i hi)
  obtain ⟨j, hj, rfl⟩ := IsRing.mem (ds := ds) him
  rw [(rg.ring r hr).per hj]
  exact (lens_perm ds).mem_iff.mp (List.mem_map.mpr ⟨r.length, List.mem_map.mpr ⟨r, hr, rfl⟩, rfl⟩)
theorem cnt_all {ds : List Int} (hs : Shf ds) (t : Nat) : cnt ds t = ds.length ↔ ∀ l ∈ lensL ds, (t : Int) % l = 0 := by
  have rg := rings_of hs
  constructor
  · intro h l hl
    obtain ⟨k, hk, rfl⟩ := List.mem_map.mp ((lens_perm ds).mem_iff.mpr hl)
    obtain ⟨r, hr, rfl⟩ := List.mem_map.mp hk
    have ir := rg.ring r hr
    have hall : ((List.range ds.length).filter fun k => decide (orb ds k t = k)) = List.range ds.length := by
      refine (List.filter_sublist).eq_of_length ?_
      rw [List.length_range]
      exact h
    have h0 : 0 < r.length := ir.pos
    have hx : r.getD 0 0 < ds.length := ir.lt _ (by rw [getD_of h0]; exact List.getElem_mem h0)
    have hm : r.getD 0 0 ∈ (List.range ds.length).filter fun k => decide (orb ds k t = k) := by
      rw [hall]
      exact List.mem_range.mpr hx
    have := (ir.back h0 t).mp (of_decide_eq_true (List.mem_filter.mp hm).2)
    rw [← Int.natCast_emod]
    omega
  · intro h
    unfold cnt
    rw [List.filter_eq_self.mpr, List.length_range]
    intro k hk
    have hk := List.mem_range.mp hk
    refine decide_eq_true ((orb_back hs hk t).mpr ?_)
    have := h _ (per_mem hs hk)
    rw [← Int.natCast_emod] at this
    omega
def Whole (ds : List Int) (w : Nat) : Prop := 0 < w ∧ ∀ t : Nat, t % w = 0 ↔ ∀ l ∈ lensL ds, (t : Int) % l = 0
theorem whole_per {ds : List Int} (hs : Shf ds) {w : Nat} (h : Whole ds w) {i : Nat} (hi : i < ds.length) : (w : Int) % (per ds i : Int) = 0 := (h.2 w).mp (Nat.mod_self w) _ (per_mem hs hi)
theorem turn_whole {ds : List Int} (hs : Shf ds) {w : Nat} (h : Whole ds w) : turnL ds (w : Int) = iota ds.length := by
  unfold turnL iota
  refine List.map_congr_left fun i hi => ?_
  have := whole_per hs h (List.mem_range.mp hi)
  unfold tn
  rw [this]
  rfl
theorem turn_less {ds : List Int} (hs : Shf ds) {w : Nat} (h : Whole ds w) : turnL ds (1 - (w : Int)) = ds := by
  refine (turn_end' rfl fun i hi => ?_).symm
  have h1 := whole_per hs h hi
  have h2 : (1 - (w : Int)) % (per ds i : Int) = 1 % (per ds i : Int) := by
    rw [Int.sub_emod, h1, Int.sub_zero, Int.emod_emod]
  unfold tn
  rw [h2, ← show (((1 % per ds i : Nat)) : Int) = (1 : Int) % (per ds i : Int) from Int.natCast_emod 1 _, Int.toNat_natCast, orb_mod hs hi, nx_get hs hi]
  rfl

/-! ### rings side by side -/
def blk (s n : Nat) : List Int := (List.range (n - 1)).map (fun j : Nat => ((s : Int) + (1 + (j : Int)))) ++ [(s : Int)]
def addR (n : Nat) (acc : List Int) : Nat → List Int
  | 0 => acc
  | t + 1 => addR n acc t ++ blk (addR n acc t).length n
def dueL (ns : List Int) : Nat → List Int
  | 0 => []
  | i + 1 => addR (i + 1) (dueL ns i) (ns.getD i 0).toNat
def ths (ns : List Int) : Nat → Int
  | 0 => 0
  | i + 1 => ths ns i + (1 + (i : Int)) * ns.getD i 0
theorem blk_length {s n : Nat} (h : 0 < n) : (blk s n).length = n := by
  unfold blk
  rw [List.length_append, List.length_map, List.length_range, List.length_singleton]
  omega
theorem addR_length {n : Nat} (h : 0 < n) (acc : List Int) : ∀ t, (addR n acc t).length = acc.length + n * t
  | 0 => rfl
  | t + 1 => by
    show (addR n acc t ++ blk (addR n acc t).length n).length = _
    rw [List.length_append, blk_length h, addR_length h acc t, Nat.mul_succ, Nat.add_assoc]
theorem dueL_length {ns : List Int} (hn : ∀ n ∈ ns, 0 ≤ n) : ∀ i, ((dueL ns i).length : Int) = ths ns i
  | 0 => rfl
  | i + 1 => by
    have ih := dueL_length hn i
    show ((addR (i + 1) (dueL ns i) (ns.getD i 0).toNat).length : Int) = ths ns i + (1 + (i : Int)) * ns.getD i 0
    rw [addR_length (Nat.succ_pos i), Int.natCast_add, ih, Int.natCast_mul]
    have h0 : 0 ≤ ns.getD i 0 := by
      rw [List.getD_eq_getElem?_getD]
      cases g : ns[i]? with
      | none => exact Int.le_refl 0
      | some m => exact hn m (List.mem_of_getElem? g)
    rw [Int.toNat_of_nonneg h0, show ((i + 1 : Nat) : Int) = 1 + (i : Int) by omega]
theorem ths_mono {ns : List Int} (hn : ∀ n ∈ ns, 0 ≤ n) {i j : Nat} (h : i ≤ j) : ths ns i ≤ ths ns j := by
  induction j with
  | zero =>
    obtain rfl : i = 0 := by omega
    exact Int.le_refl _
  | succ j ih =>
    by_cases e : i = j + 1
    · rw [e]
      exact Int.le_refl _
    · have h1 := ih (by omega)
      have h0 : 0 ≤ ns.getD j 0 := by
        rw [List.getD_eq_getElem?_getD]
        cases g : ns[j]? with
        | none => exact Int.le_refl 0
        | some m => exact hn m (List.mem_of_getElem? g)
      have h2 : 0 ≤ (1 + (j : Int)) * ns.getD j 0 := Int.mul_nonneg (by omega) h0
      show ths ns i ≤ ths ns j + (1 + (j : Int)) * ns.getD j 0
      omega
theorem count_le {ns : List Int} (hn : ∀ n ∈ ns, 0 ≤ n) {i : Nat} {m : Int} (h : ns[i]? = some m) (ht : ths ns ns.length ≤ 300) : 0 ≤ m ∧ (1 + (i : Int)) * m ≤ 300 ∧ m ≤ 300 := by
  have hm := hn m (List.mem_of_getElem? h)
  have hi := (List.getElem?_eq_some_iff.mp h).1
  have h1 := ths_mono hn (show i + 1 ≤ ns.length from hi)
  have h2 : 0 ≤ ths ns i := by
    have := ths_mono hn (Nat.zero_le i)
    exact this
  have e : ths ns (i + 1) = ths ns i + (1 + (i : Int)) * m := by
    show ths ns i + (1 + (i : Int)) * ns.getD i 0 = _
    rw [List.getD_eq_getElem?_getD, h]
    rfl
  have h3 : m ≤ (1 + (i : Int)) * m := by
    have := Int.mul_le_mul_of_nonneg_right (show (1 : Int) ≤ 1 + (i : Int) by omega) hm
    omega
  omega
theorem addR_le {ns : List Int} (hn : ∀ n ∈ ns, 0 ≤ n) {i : Nat} {m : Int} (h : ns[i]? = some m) (ht : ths ns ns.length ≤ 300) {t : Nat} (hm : (t : Int) < m) : (addR (i + 1) (dueL ns i) t).length ≤ 300 := by
  have a1 : (addR (i + 1) (dueL ns i) t).length = (dueL ns i).length + (i + 1) * t := addR_length (Nat.succ_pos i) (dueL ns i) t
  have a2 : (addR (i + 1) (dueL ns i) m.toNat).length = (dueL ns i).length + (i + 1) * m.toNat := addR_length (Nat.succ_pos i) (dueL ns i) m.toNat
  have a3 := dueL_length hn (i + 1)
  have a4 := ths_mono hn (show i + 1 ≤ ns.length from (List.getElem?_eq_some_iff.mp h).1)
  have a5 : dueL ns (i + 1) = addR (i + 1) (dueL ns i) m.toNat := by
    show addR (i + 1) (dueL ns i) (ns.getD i 0).toNat = _
    rw [List.getD_eq_getElem?_getD, h]
    rfl
  rw [a5] at a3
  have a6 : (i + 1) * t ≤ (i + 1) * m.toNat := Nat.mul_le_mul_left _ (by omega)
  omega
theorem sum_range (f : Nat → Int) : ∀ n, ((List.range n).map f).sum = (match n with | 0 => 0 | k + 1 => ((List.range k).map f).sum + f k)
  | 0 => rfl
  | k + 1 => by
    rw [List.range_succ, List.map_append, List.sum_append]
    simp
theorem ths_sum (ns : List Int) : ∀ n, ((List.range n).map fun i : Nat => (1 + (i : Int)) * ns.getD i 0).sum = ths ns n
  | 0 => rfl
  | n + 1 => by
    rw [sum_range]
    show ((List.range n).map fun i : Nat => (1 + (i : Int)) * ns.getD i 0).sum + _ = _
    rw [ths_sum ns n]
    rfl

theorem getD_nn {ns : List Int} (hn : ∀ n ∈ ns, 0 ≤ n) (i : Nat) : 0 ≤ ns.getD i 0 := by
  rw [List.getD_eq_getElem?_getD]
  cases g : ns[i]? with
  | none => exact Int.le_refl 0
  | some m => exact hn m (List.mem_of_getElem? g)
theorem ths_set {ns : List Int} {j : Nat} (v : Int) (h : j < ns.length) : ∀ i, ths (ns.set j v) i = ths ns i + (if j < i then (1 + (j : Int)) * (v - ns.getD j 0) else 0)
  | 0 => by simp [ths]
  | i + 1 => by
    have ih := ths_set v h i
    show ths (ns.set j v) i + (1 + (i : Int)) * (ns.set j v).getD i 0 = ths ns i + (1 + (i : Int)) * ns.getD i 0 + _
    rw [ih]
    by_cases e : i = j
    · subst e
      have e1 : (ns.set i v).getD i 0 = v := by simp [List.getD_eq_getElem?_getD, h]
      rw [e1, if_neg (Nat.lt_irrefl _), if_pos (Nat.lt_succ_self _), Int.mul_sub]
      omega
    · have e1 : (ns.set j v).getD i 0 = ns.getD i 0 := by
        rw [List.getD_eq_getElem?_getD, List.getD_eq_getElem?_getD, List.getElem?_set_ne (Ne.symm e)]
      rw [e1]
      by_cases l : j < i
      · rw [if_pos l, if_pos (by omega)]
        omega
      · rw [if_neg l, if_neg (by omega)]
        omega
theorem ths_zero : ∀ {ns : List Int} (i : Nat), (∀ k, k < i → ns.getD k 0 = 0) → ths ns i = 0
  | ns, 0, _ => rfl
  | ns, i + 1, h => by
    have ih := ths_zero (ns := ns) i fun k hk => h k (by omega)
    show ths ns i + (1 + (i : Int)) * ns.getD i 0 = 0
    rw [ih, h i (by omega), Int.mul_zero]
    rfl
theorem ths_le {ns : List Int} (hn : ∀ n ∈ ns, 0 ≤ n) (i k : Nat) (h : i < k) : (1 + (i : Int)) * ns.getD i 0 ≤ ths ns k := by
  have h1 := ths_mono hn (show i + 1 ≤ k from h)
  have h2 := ths_mono hn (Nat.zero_le i)
  have e : ths ns (i + 1) = ths ns i + (1 + (i : Int)) * ns.getD i 0 := rfl
  have e0 : ths ns 0 = 0 := rfl
  omega
theorem ths_pos {ns : List Int} (hn : ∀ n ∈ ns, 0 ≤ n) (h : ns ≠ List.replicate ns.length 0) : 1 ≤ ths ns ns.length := by
  refine Classical.byContradiction fun c => h ?_
  refine List.eq_replicate_iff.mpr ⟨rfl, fun m hm => ?_⟩
  obtain ⟨i, hi, rfl⟩ := List.getElem_of_mem hm
  have h0 := hn _ hm
  have h1 := ths_le hn i ns.length hi
  rw [List.getD_eq_getElem?_getD, List.getElem?_eq_getElem hi] at h1
  have h2 : ns[i] ≤ (1 + (i : Int)) * ns[i] := by
    have := Int.mul_le_mul_of_nonneg_right (show (1 : Int) ≤ 1 + (i : Int) by omega) h0
    omega
  have h3 : (1 + (i : Int)) * ns[i] ≤ ths ns ns.length := h1
  omega
theorem ths_ext {ns ms : List Int} : ∀ i, (∀ k, k < i → ns.getD k 0 = ms.getD k 0) → ths ns i = ths ms i
  | 0, _ => rfl
  | i + 1, h => by
    have ih := ths_ext i fun k hk => h k (by omega)
    show ths ns i + (1 + (i : Int)) * ns.getD i 0 = ths ms i + (1 + (i : Int)) * ms.getD i 0
    rw [ih, h i (by omega)]
theorem due_ext {ns ms : List Int} : ∀ i, (∀ k, k < i → ns.getD k 0 = ms.getD k 0) → dueL ns i = dueL ms i
  | 0, _ => rfl
  | i + 1, h => by
    have ih := due_ext i fun k hk => h k (by omega)
    show addR (i + 1) (dueL ns i) (ns.getD i 0).toNat = addR (i + 1) (dueL ms i) (ms.getD i 0).toNat
    rw [ih, h i (by omega)]
theorem ths_more {ns : List Int} {i : Nat} : ∀ k, (∀ j, i ≤ j → ns.getD j 0 = 0) → ths ns (i + k) = ths ns i
  | 0, _ => rfl
  | k + 1, h => by
    show ths ns (i + k) + (1 + ((i + k : Nat) : Int)) * ns.getD (i + k) 0 = ths ns i
    rw [ths_more k h, h (i + k) (by omega), Int.mul_zero, Int.add_zero]
theorem due_more {ns : List Int} {i : Nat} : ∀ k, (∀ j, i ≤ j → ns.getD j 0 = 0) → dueL ns (i + k) = dueL ns i
  | 0, _ => rfl
  | k + 1, h => by
    show addR (i + k + 1) (dueL ns (i + k)) (ns.getD (i + k) 0).toNat = dueL ns i
    rw [due_more k h, h (i + k) (by omega)]
    rfl
/-- what the law's rings are -/
def RingsOk (ns : List Int) : Prop := 0 < ns.length ∧ ns.length ≤ 300 ∧ (∀ n ∈ ns, 0 ≤ n) ∧ 1 ≤ ths ns ns.length ∧ ths ns ns.length ≤ 300
theorem getD_app (ns : List Int) (z : Nat) (k : Nat) : (ns ++ List.replicate z 0).getD k 0 = ns.getD k 0 := by
  rw [List.getD_eq_getElem?_getD, List.getD_eq_getElem?_getD, List.getElem?_append]
  split
  · rfl
  · rename_i h
    rw [List.getElem?_eq_none (show ns.length ≤ k by omega), List.getElem?_replicate]
    split <;> rfl
theorem getN_out (ns : List Int) {k : Nat} (h : ns.length ≤ k) : ns.getD k 0 = 0 := by
  rw [List.getD_eq_getElem?_getD, List.getElem?_eq_none h]
  rfl
theorem pad_ths (ns : List Int) (z : Nat) : ths (ns ++ List.replicate z 0) (ns ++ List.replicate z 0).length = ths ns ns.length := by
  rw [List.length_append, List.length_replicate, ths_ext (ns := ns ++ List.replicate z 0) (ms := ns) _ fun k _ => getD_app ns z k]
  exact ths_more z fun j hj => getN_out ns hj
theorem pad_due (ns : List Int) (z : Nat) : dueL (ns ++ List.replicate z 0) (ns ++ List.replicate z 0).length = dueL ns ns.length := by
  rw [List.length_append, List.length_replicate, due_ext (ns := ns ++ List.replicate z 0) (ms := ns) _ fun k _ => getD_app ns z k]
  exact due_more z fun j hj => getN_out ns hj
theorem pad_ok {ns : List Int} (h : RingsOk ns) {z : Nat} (hz : ns.length + z ≤ 300) : RingsOk (ns ++ List.replicate z 0) := by
  obtain ⟨h1, h2, h3, h4, h5⟩ := h
  refine ⟨by rw [List.length_append]; omega, by rw [List.length_append, List.length_replicate]; exact hz, fun n m => ?_, by rw [pad_ths]; exact h4, by rw [pad_ths]; exact h5⟩
  rcases List.mem_append.mp m with m | m
  · exact h3 n m
  · rw [(List.mem_replicate.mp m).2]
    exact Int.le_refl 0
theorem take_pad {ns : List Int} (h : ns.length ≤ 300) : (ns ++ [0, 0]).take 300 = ns ++ List.replicate (min 2 (300 - ns.length)) 0 := by
  rw [List.take_append, List.take_of_length_le h]
  congr 1
  by_cases h1 : 300 - ns.length = 0
  · rw [h1]
    rfl
  · by_cases h2 : 300 - ns.length = 1
    · rw [h2]
      rfl
    · obtain ⟨k, hk⟩ : ∃ k, 300 - ns.length = k + 2 := ⟨300 - ns.length - 2, by omega⟩
      rw [hk, show min 2 (k + 2) = 2 by omega, List.take_of_length_le (by simp)]
      rfl
def oneRing (k : Nat) : List Int := List.replicate k 0 ++ [1]
theorem oneRing_ths (k : Nat) : ths (oneRing k) (oneRing k).length = 1 + (k : Int) := by
  have e : (oneRing k).length = k + 1 := by simp [oneRing]
  rw [e]
  show ths (oneRing k) k + (1 + (k : Int)) * (oneRing k).getD k 0 = _
  have e1 : (oneRing k).getD k 0 = 1 := by simp [oneRing, List.getD_eq_getElem?_getD]
  have e2 : ths (oneRing k) k = 0 := ths_zero k fun j hj => by
    rw [List.getD_eq_getElem?_getD]
    unfold oneRing
    rw [List.getElem?_append_left (by simpa using hj), List.getElem?_replicate, if_pos hj]
    rfl
  rw [e1, e2]
  omega
theorem oneRing_ok {k : Nat} (h : k < 300) : RingsOk (oneRing k) := by
  have e := oneRing_ths k
  refine ⟨by simp [oneRing], by simp [oneRing]; omega, fun n m => ?_, by omega, by omega⟩
  rcases List.mem_append.mp m with m | m
  · rw [(List.mem_replicate.mp m).2]
    exact Int.le_refl 0
  · rw [List.mem_singleton.mp m]
    decide
theorem blk_wide {s n : Nat} (hs : s ≤ 300) (hn : n ≤ 300) : ∀ m ∈ blk s n, m.natAbs < 2 ^ 20 := fun m h => by
  unfold blk at h
  rcases List.mem_append.mp h with h | h
  · obtain ⟨j, hj, rfl⟩ := List.mem_map.mp h
    have := List.mem_range.mp hj
    omega
  · rw [List.mem_singleton.mp h]
    omega
theorem addR_wide {n : Nat} (hn : n ≤ 300) {acc : List Int} (ha : ∀ m ∈ acc, m.natAbs < 2 ^ 20) : ∀ t, (addR n acc t).length ≤ 300 → ∀ m ∈ addR n acc t, m.natAbs < 2 ^ 20
  | 0, _, m, h => ha m h
  | t + 1, hl, m, h => by
    have hl' : (addR n acc t ++ blk (addR n acc t).length n).length ≤ 300 := hl
    rw [List.length_append] at hl'
    rcases List.mem_append.mp (show m ∈ addR n acc t ++ blk (addR n acc t).length n from h) with h | h
    · exact addR_wide hn ha t (by omega) m h
    · exact blk_wide (by omega) hn m h
theorem due_wide {ns : List Int} (hn : ∀ n ∈ ns, 0 ≤ n) : ∀ i, i ≤ 300 → ths ns i ≤ 300 → ∀ m ∈ dueL ns i, m.natAbs < 2 ^ 20
  | 0, _, _, m, h => nomatch h
  | i + 1, hi, ht, m, h => by
    have h1 := ths_mono hn (show i ≤ i + 1 by omega)
    refine addR_wide hi (due_wide hn i (by omega) (by omega)) _ ?_ m h
    have := dueL_length hn (i + 1)
    have e : dueL ns (i + 1) = addR (i + 1) (dueL ns i) (ns.getD i 0).toNat := rfl
    rw [e] at this
    omega
theorem due_ok {ns : List Int} (h : RingsOk ns) : wide 1900 (dueL ns ns.length) ∧ (dueL ns ns.length).length ≤ 4000 := by
  obtain ⟨h1, h2, h3, h4, h5⟩ := h
  refine ⟨(wide_lt (k := 20) (by decide) (due_wide h3 _ h2 h5)).mono (by decide), ?_⟩
  have := dueL_length h3 ns.length
  omega
theorem blk_perm (s n : Nat) (hn : 0 < n) : (blk s n).Perm ((List.range n).map fun j : Nat => ((s : Int) + (j : Int))) := by
  obtain ⟨m, rfl⟩ : ∃ m, n = m + 1 := ⟨n - 1, by omega⟩
  unfold blk
  rw [List.range_succ_eq_map, List.map_cons, List.map_map, Nat.add_sub_cancel]
  refine (List.perm_append_singleton _ _).trans ?_
  refine List.Perm.of_eq ?_
  show (s : Int) :: _ = ((s : Int) + ((0 : Nat) : Int)) :: _
  rw [show (s : Int) + ((0 : Nat) : Int) = s by omega]
  refine congrArg (List.cons (s : Int)) (List.map_congr_left fun j _ => ?_)
  show (s : Int) + (1 + (j : Int)) = (s : Int) + ((j + 1 : Nat) : Int)
  omega
theorem iota_more (s n : Nat) : iota (s + n) = iota s ++ (List.range n).map fun j : Nat => ((s : Int) + (j : Int)) := by
  unfold iota
  rw [List.range_add, List.map_append, List.map_map]
  congr 1
theorem perm_blk {acc : List Int} {n : Nat} (hn : 0 < n) (h : acc.Perm (iota acc.length)) : (acc ++ blk acc.length n).Perm (iota (acc ++ blk acc.length n).length) := by
  rw [List.length_append, blk_length hn, iota_more]
  exact h.append (blk_perm _ _ hn)
theorem perm_addR {n : Nat} (hn : 0 < n) {acc : List Int} (h : acc.Perm (iota acc.length)) : ∀ t, (addR n acc t).Perm (iota (addR n acc t).length)
  | 0 => h
  | t + 1 => perm_blk hn (perm_addR hn h t)
theorem perm_due (ns : List Int) : ∀ i, (dueL ns i).Perm (iota (dueL ns i).length)
  | 0 => List.Perm.refl _
  | i + 1 => perm_addR (Nat.succ_pos i) (perm_due ns i) _
theorem due_shf {ns : List Int} (hn : ∀ n ∈ ns, 0 ≤ n) (t1 : 1 ≤ ths ns ns.length) (t2 : ths ns ns.length ≤ 300) : Shf (dueL ns ns.length) := by
  have e := dueL_length hn ns.length
  exact ⟨by omega, by omega, perm_due ns _⟩
theorem IsRing.more {l : List Int} (m : List Int) {r : List Nat} (h : IsRing l r) : IsRing (l ++ m) r := by
  refine ⟨h.pos, h.nd, fun i hi => ?_, fun j hj => ?_⟩
  · have := h.lt i hi
    rw [List.length_append]
    omega
  · rw [← h.nxt j hj]
    have hlt := h.lt (r.getD j 0) (by rw [getD_of hj]; exact List.getElem_mem hj)
    generalize r.getD j 0 = x at hlt
    unfold nx
    rw [List.getD_eq_getElem?_getD, List.getD_eq_getElem?_getD, List.getElem?_append_left hlt]
theorem blk_ring {l : List Int} {n : Nat} (hn : 0 < n) : IsRing (l ++ blk l.length n) ((List.range n).map (l.length + ·)) := by
  have e : ∀ {j : Nat}, j < n → ((List.range n).map (l.length + ·)).getD j 0 = l.length + j := fun {j} h => by
    rw [List.getD_eq_getElem?_getD, List.getElem?_map, List.getElem?_range h]
    rfl
  have ln : ((List.range n).map (l.length + ·)).length = n := by simp
  refine ⟨by omega, ?_, fun i hi => ?_, fun j hj => ?_⟩
  · refine List.pairwise_map.mpr (List.nodup_range.imp fun h => ?_)
    intro z
    exact h (by omega)
  · obtain ⟨j, hj, rfl⟩ := List.mem_map.mp hi
    have := List.mem_range.mp hj
    rw [List.length_append, blk_length hn]
    omega
  · rw [ln] at hj ⊢
    rw [e hj, e (Nat.mod_lt _ hn)]
    unfold nx blk
    rw [List.getD_eq_getElem?_getD, List.getElem?_append_right (by omega), show l.length + j - l.length = j by omega]
    by_cases c : j < n - 1
    · rw [List.getElem?_append_left (by simpa using c), List.getElem?_map, List.getElem?_range c, Nat.mod_eq_of_lt (by omega)]
      show ((l.length : Int) + (1 + (j : Int))).toNat = _
      omega
    · rw [List.getElem?_append_right (by simp; omega), List.length_map, List.length_range, show j - (n - 1) = 0 by omega, show j + 1 = n by omega, Nat.mod_self]
      show ((l.length : Int)).toNat = _
      omega
/-- rings side by side, with their lengths -/
def Side (l : List Int) (R : List (List Nat)) : Prop := (∀ r ∈ R, IsRing l r) ∧ R.flatten = List.range l.length
theorem Side.add {l : List Int} {R : List (List Nat)} (h : Side l R) {n : Nat} (hn : 0 < n) : Side (l ++ blk l.length n) (R ++ [(List.range n).map (l.length + ·)]) := by
  refine ⟨fun r hr => ?_, ?_⟩
  · rcases List.mem_append.mp hr with hr | hr
    · exact (h.1 r hr).more _
    · rw [List.mem_singleton.mp hr]
      exact blk_ring hn
  · rw [List.flatten_append, h.2, List.flatten_singleton, List.length_append, blk_length hn, List.range_add]
theorem side_addR {n : Nat} (hn : 0 < n) {acc : List Int} {R : List (List Nat)} (h : Side acc R) : ∀ t, ∃ S, Side (addR n acc t) S ∧ S.map List.length = R.map List.length ++ List.replicate t n
  | 0 => ⟨R, h, by simp⟩
  | t + 1 => by
    obtain ⟨S, h1, h2⟩ := side_addR hn h t
    refine ⟨_, h1.add hn, ?_⟩
    rw [List.map_append, h2, List.replicate_succ', ← List.append_assoc]
    simp
theorem side_due (ns : List Int) : ∀ i, ∃ S, Side (dueL ns i) S ∧ S.map List.length = ((List.range i).map fun k => List.replicate (ns.getD k 0).toNat (k + 1)).flatten
  | 0 => ⟨[], ⟨(fun _ h => nomatch h), rfl⟩, rfl⟩
  | i + 1 => by
    obtain ⟨R, h1, h2⟩ := side_due ns i
    obtain ⟨S, h3, h4⟩ := side_addR (Nat.succ_pos i) h1 (ns.getD i 0).toNat
    refine ⟨S, h3, ?_⟩
    rw [h4, h2, List.range_succ, List.map_append, List.flatten_append]
    simp
theorem count_reps (f : Nat → Nat) (v : Nat) : ∀ i, (((List.range i).map fun k => List.replicate (f k) (k + 1)).flatten).count v = if 1 ≤ v ∧ v ≤ i then f (v - 1) else 0
  | 0 => by
    rw [if_neg (by omega)]
    rfl
  | i + 1 => by
    rw [List.range_succ, List.map_append, List.flatten_append, List.count_append, count_reps f v i]
    show _ + (List.replicate (f i) (i + 1) ++ []).count v = _
    rw [List.append_nil, List.count_replicate]
    by_cases c : v = i + 1
    · subst c
      rw [if_neg (by omega), if_pos (by simp), if_pos (by omega)]
      show 0 + f i = f (i + 1 - 1)
      rw [Nat.add_sub_cancel, Nat.zero_add]
    · rw [if_neg (show ¬ ((i + 1 == v) = true) by rw [beq_iff_eq]; exact fun z => c z.symm)]
      by_cases d : 1 ≤ v ∧ v ≤ i
      · rw [if_pos d, if_pos (by omega), Nat.add_zero]
      · rw [if_neg d, if_neg (by omega)]
theorem up_count (l : List Nat) (k : Nat) : (up l).count (k : Int) = l.count k := by
  induction l with
  | nil => rfl
  | cons a l ih =>
    show ((a : Int) :: up l).count (k : Int) = _
    rw [List.count_cons, List.count_cons, ih]
    by_cases c : a = k
    · subst c
      simp
    · have c' : ¬ (a : Int) = (k : Int) := by omega
      simp [c, c']
theorem any_cnt {ds : List Int} (hs : Shf ds) {R : List (List Nat)} (h : Rings ds R ds.length) (t : Nat) : (cnt ds t : Int) = ((up (R.map List.length)).filter fun l => decide ((t : Int) % l = 0)).sum := by
  rw [← rings_cnt t h.ring]
  unfold cnt
  rw [((h.perm hs).filter _).length_eq]

/-! ### new numbers, told divisor by divisor -/
theorem sub_late (r : List Int) {i k : Nat} (h : i ≤ k) : sub r k i = sub r i i := by
  induction k with
  | zero =>
    rw [show i = 0 by omega]
  | succ k ih =>
    by_cases e : i = k + 1
    · rw [e]
    · show sub r k i - (if k < i ∧ (i + 1) % (k + 1) = 0 then sub r k k else 0) = _
      rw [if_neg fun z => by omega, ih (by omega), Int.sub_zero]
theorem newL_diag (r : List Int) : newL r = tabL r.length fun i => sub r i i := tab_congr fun i hi => sub_late r (Nat.le_of_lt hi)
theorem sub_half (r : List Int) (i : Nat) {k : Nat} (h : (i + 1) / 2 ≤ k) (hk : k ≤ i) : sub r k i = sub r ((i + 1) / 2) i := by
  induction k with
  | zero =>
    rw [show (i + 1) / 2 = 0 by omega]
  | succ k ih =>
    by_cases e : (i + 1) / 2 = k + 1
    · rw [e]
    · show sub r k i - (if k < i ∧ (i + 1) % (k + 1) = 0 then sub r k k else 0) = _
      rw [if_neg, ih (by omega) (by omega), Int.sub_zero]
      rintro ⟨h1, h2⟩
      obtain ⟨q, hq⟩ := Nat.dvd_of_mod_eq_zero h2
      have hq2 : 2 ≤ q := by
        rcases Nat.lt_or_ge q 2 with z | z
        · have : q = 0 ∨ q = 1 := by omega
          rcases this with z | z
          · rw [z] at hq
            omega
          · rw [z] at hq
            omega
        · exact z
      have : (k + 1) * 2 ≤ (k + 1) * q := Nat.mul_le_mul_left _ hq2
      omega
theorem sub_sum (r : List Int) (i : Nat) : ∀ k : Nat, k ≤ i → (((List.range k).filter fun d : Nat => decide ((1 + (i : Int)) % (1 + (d : Int)) = 0)).map fun d : Nat => sub r d d).sum = r.getD i 0 - sub r k i
  | 0, _ => by
    show (0 : Int) = r.getD i 0 - r.getD i 0
    omega
  | k + 1, hk => by
    have ih := sub_sum r i k (by omega)
    have e : ((1 + (i : Int)) % (1 + (k : Int)) = 0) ↔ (i + 1) % (k + 1) = 0 := by
      have : ((1 + (i : Int)) % (1 + (k : Int))) = (((i + 1) % (k + 1) : Nat) : Int) := by
        rw [Int.natCast_emod, Int.natCast_add, Int.natCast_add, Int.add_comm 1, Int.add_comm 1]
        rfl
      rw [this]
      omega
    rw [List.range_succ, List.filter_append, List.map_append, List.sum_append, ih]
    show _ = r.getD i 0 - (sub r k i - (if k < i ∧ (i + 1) % (k + 1) = 0 then sub r k k else 0))
    by_cases h : (i + 1) % (k + 1) = 0
    · rw [if_pos ⟨by omega, h⟩, List.filter_cons, if_pos (decide_eq_true (e.mpr h))]
      simp only [List.filter_nil, List.map_cons, List.map_nil, List.sum_cons, List.sum_nil]
      omega
    · rw [if_neg fun z => h z.2, List.filter_cons, if_neg (by simpa using fun z => h (e.mp z))]
      simp only [List.filter_nil, List.map_nil, List.sum_nil]
      omega
theorem part_le {c : List Int} {B : Int} (hB : 0 ≤ B) (h : ∀ z ∈ c, 0 ≤ z ∧ z < B) (i : Nat) : ∀ k : Nat, k ≤ 60 → 0 ≤ part c i k ∧ part c i k ≤ (k : Int) * (60 * B)
  | 0, _ => ⟨Int.le_refl _, by show (0 : Int) ≤ (0 : Int) * _; omega⟩
  | k + 1, hk => by
    obtain ⟨h0, h1⟩ := part_le hB h i k (by omega)
    have hc : 0 ≤ c.getD k 0 ∧ c.getD k 0 ≤ B := by
      rw [List.getD_eq_getElem?_getD]
      cases g : c[k]? with
      | none => exact ⟨Int.le_refl _, hB⟩
      | some z =>
        have := h z (List.mem_of_getElem? g)
        show 0 ≤ z ∧ z ≤ B
        omega
    have h2 : 0 ≤ ((k + 1 : Nat) : Int) * c.getD k 0 := Int.mul_nonneg (by omega) hc.1
    have h3 : ((k + 1 : Nat) : Int) * c.getD k 0 ≤ 60 * B := Int.mul_le_mul (by omega) hc.2 hc.1 (by decide)
    have e : ((k + 1 : Nat) : Int) * (60 * B) = (k : Int) * (60 * B) + 60 * B := by
      rw [Int.natCast_add, Int.add_mul]
      omega
    show 0 ≤ part c i k + _ ∧ part c i k + _ ≤ _
    rw [e]
    split <;> omega
/-- a row as it is drawn -/
def RowOk (r : List Int) : Prop := 0 < r.length ∧ r.length ≤ 30 ∧ ∀ x ∈ r, -(2 ^ 170) < x ∧ x < 2 ^ 170
theorem rowok_set {r : List Int} {i : Nat} {x : Int} (h : RowOk r) (hx : -(2 ^ 170) < x ∧ x < 2 ^ 170) : RowOk (r.set i x) := by
  obtain ⟨h0, h1, h2⟩ := h
  refine ⟨by rw [List.length_set]; exact h0, by rw [List.length_set]; exact h1, fun y hy => ?_⟩
  rcases List.mem_or_eq_of_mem_set hy with z | z
  · exact h2 y z
  · rw [z]
    exact hx
theorem rowok_wide {r : List Int} (h : RowOk r) : wide 1900 r ∧ r.length ≤ 4000 := by
  obtain ⟨h0, h1, h2⟩ := h
  refine ⟨(wide_lt (k := 170) (by decide) fun n hn => ?_).mono (by decide), by omega⟩
  have := h2 n hn
  have e2 : (2 : Nat) ^ 170 = 1496577676626844588240573268701473812127674924007424 := by decide
  have e3 : (2 : Int) ^ 170 = 1496577676626844588240573268701473812127674924007424 := by decide
  rw [e3] at this
  rw [e2]
  omega

/-! ### the least row above -/
def lk (x : Int) : Int := if x > 0 then x else 0
theorem lk_div (x : Int) {n : Int} (hn : 0 < n) : ∃ q : Int, 0 ≤ q ∧ lk x + -lk x % n = n * q := by
  have h0 : 0 ≤ lk x := by
    unfold lk
    split <;> omega
  have h1 := Int.emod_nonneg (-lk x) (show n ≠ 0 by omega)
  have h2 : (lk x + -lk x % n) % n = 0 := by
    rw [Int.add_emod_emod, show lk x + -lk x = 0 by omega, Int.zero_emod]
  exact ⟨(lk x + -lk x % n) / n, Int.ediv_nonneg (by omega) (by omega), (Int.mul_ediv_cancel' (Int.dvd_of_emod_eq_zero h2)).symm⟩
def Least (r c : List Int) (k : Nat) : Prop := ∀ j, j < k → lk (r.getD j 0 - part c j j) + -lk (r.getD j 0 - part c j j) % ((j + 1 : Nat) : Int) = ((j + 1 : Nat) : Int) * c.getD j 0
def LeastOf (r c : List Int) : Prop := c.length = r.length ∧ (∀ z ∈ c, 0 ≤ z) ∧ Least r c c.length
theorem part_app (c : List Int) (x : Int) (i : Nat) : ∀ k, k ≤ c.length → part (c ++ [x]) i k = part c i k
  | 0, _ => rfl
  | k + 1, h => by
    show part (c ++ [x]) i k + _ = part c i k + _
    have e : (c ++ [x]).getD k 0 = c.getD k 0 := by
      rw [List.getD_eq_getElem?_getD, List.getD_eq_getElem?_getD, List.getElem?_append_left (by omega)]
    rw [part_app c x i k (by omega), e]
theorem push_getD {c : List Int} {k : Nat} (h : c.length = k) (x : Int) : (c ++ [x]).getD k 0 = x := by
  rw [List.getD_eq_getElem?_getD, List.getElem?_append_right (by omega), h, Nat.sub_self]
  rfl
theorem part_push {c : List Int} {k i : Nat} {x : Int} (h : c.length = k) : part (c ++ [x]) i (k + 1) = part c i k + (if (i + 1) % (k + 1) = 0 then ((k + 1 : Nat) : Int) * x else 0) := by
  show part (c ++ [x]) i k + (if (i + 1) % (k + 1) = 0 then ((k + 1 : Nat) : Int) * (c ++ [x]).getD k 0 else 0) = _
  rw [part_app c x i k (by omega), push_getD h]
theorem least_app {r c : List Int} {k : Nat} {x : Int} (h : c.length = k) (le : Least r c k) (hx : lk (r.getD k 0 - part c k k) + -lk (r.getD k 0 - part c k k) % ((k + 1 : Nat) : Int) = ((k + 1 : Nat) : Int) * x) : Least r (c ++ [x]) (k + 1) := fun j hj => by
  rw [part_app c x j j (by omega)]
  by_cases e : j = k
  · subst e
    rw [push_getD h]
    exact hx
  · have e2 : (c ++ [x]).getD j 0 = c.getD j 0 := by
      rw [List.getD_eq_getElem?_getD, List.getD_eq_getElem?_getD, List.getElem?_append_left (by omega)]
    rw [e2]
    exact le j (by omega)

theorem part_same {c c' : List Int} {i : Nat} : ∀ {k : Nat}, (∀ d, d < k → c.getD d 0 = c'.getD d 0) → part c i k = part c' i k
  | 0, _ => rfl
  | k + 1, h => by
    show part c i k + _ = part c' i k + _
    rw [part_same fun d hd => h d (by omega), h k (by omega)]
theorem part_top (c : List Int) (j : Nat) : part c j (j + 1) = part c j j + ((j + 1 : Nat) : Int) * c.getD j 0 := by
  show part c j j + (if (j + 1) % (j + 1) = 0 then _ else 0) = _
  rw [if_pos (Nat.mod_self _)]
theorem getD_nn' {c : List Int} (h : ∀ z ∈ c, 0 ≤ z) (j : Nat) : 0 ≤ c.getD j 0 := by
  rw [List.getD_eq_getElem?_getD]
  cases g : c[j]? with
  | none => exact Int.le_refl 0
  | some z => exact h z (List.mem_of_getElem? g)
theorem least_uniq {c0 c : List Int} (h0 : ∀ z ∈ c0, 0 ≤ z) (h : LeastOf (rowL c0) c) : c = c0 := by
  obtain ⟨hl, hn, le⟩ := h
  rw [rowL_length] at hl
  have go : ∀ j, j < c.length → c.getD j 0 = c0.getD j 0 := by
    intro j
    induction j using Nat.strongRecOn with
    | _ j ih =>
      intro hj
      have e := le j hj
      have ep : part c j j = part c0 j j := part_same fun d hd => ih d hd (by omega)
      have er : (rowL c0).getD j 0 = part c0 j (j + 1) := by
        unfold rowL
        exact tab_getD (by omega)
      rw [ep, er, part_top, show part c0 j j + ((j + 1 : Nat) : Int) * c0.getD j 0 - part c0 j j = ((j + 1 : Nat) : Int) * c0.getD j 0 by omega] at e
      have hp : 0 ≤ ((j + 1 : Nat) : Int) * c0.getD j 0 := Int.mul_nonneg (by omega) (getD_nn' h0 j)
      have el : lk (((j + 1 : Nat) : Int) * c0.getD j 0) = ((j + 1 : Nat) : Int) * c0.getD j 0 := by
        unfold lk
        split <;> omega
      rw [el, ← Int.mul_neg, Int.mul_emod_right, Int.add_zero] at e
      exact (Int.eq_of_mul_eq_mul_left (by omega) e).symm
  refine List.ext_getElem? fun j => ?_
  by_cases hj : j < c.length
  · have := go j hj
    rw [List.getD_eq_getElem?_getD, List.getD_eq_getElem?_getD, List.getElem?_eq_getElem hj, List.getElem?_eq_getElem (show j < c0.length by omega)] at this
    rw [List.getElem?_eq_getElem hj, List.getElem?_eq_getElem (show j < c0.length by omega)]
    exact congrArg some this
  · rw [List.getElem?_eq_none (by omega), List.getElem?_eq_none (by omega)]
theorem rings_get {r : List Int} (fr : Free r) {j : Nat} (hj : j < r.length) : 0 ≤ (ringsR r).getD j 0 ∧ ((j + 1 : Nat) : Int) * (ringsR r).getD j 0 = sub r j j := by
  obtain ⟨d, d0, ed⟩ := fr j hj
  have e1 : (ringsR r).getD j 0 = (newL r).getD j 0 / ((j + 1 : Nat) : Int) := by
    unfold ringsR
    exact tab_getD hj
  have e2 : (newL r).getD j 0 = sub r j j := by
    rw [newL_diag]
    exact tab_getD hj
  rw [e1, ed, Int.mul_ediv_cancel_left _ (by omega), ← ed, e2]
  exact ⟨d0, rfl⟩
theorem free_rowL {r : List Int} (fr : Free r) : rowL (ringsR r) = r := by
  have hl : (ringsR r).length = r.length := tab_length _ _
  have go : ∀ k i, k ≤ i → i < r.length → sub r k i = r.getD i 0 - part (ringsR r) i k := by
    intro k
    induction k with
    | zero =>
      intro i _ _
      show r.getD i 0 = r.getD i 0 - 0
      omega
    | succ k ih =>
      intro i hk hi
      have e1 : sub r (k + 1) i = sub r k i - (if k < i ∧ (i + 1) % (k + 1) = 0 then sub r k k else 0) := rfl
      have e2 : part (ringsR r) i (k + 1) = part (ringsR r) i k + (if (i + 1) % (k + 1) = 0 then ((k + 1 : Nat) : Int) * (ringsR r).getD k 0 else 0) := rfl
      rw [e1, e2, ih i (by omega) hi, (rings_get fr (show k < r.length by omega)).2]
      by_cases c : (i + 1) % (k + 1) = 0
      · rw [if_pos ⟨by omega, c⟩, if_pos c]
        omega
      · rw [if_neg fun z => c z.2, if_neg c]
        omega
  unfold rowL
  rw [hl]
  refine (tab_congr fun i hi => ?_).trans (tab_self r)
  have := go i i (Nat.le_refl i) hi
  rw [part_top, (rings_get fr hi).2]
  omega
theorem rings_nn {r : List Int} (fr : Free r) : ∀ z ∈ ringsR r, 0 ≤ z := fun z hz => by
  obtain ⟨j, hj, rfl⟩ := List.getElem_of_mem hz
  have hl : (ringsR r).length = r.length := tab_length _ _
  have := (rings_get fr (show j < r.length by omega)).1
  rw [List.getD_eq_getElem?_getD, List.getElem?_eq_getElem hj] at this
  exact this
theorem least_free {r c : List Int} (fr : Free r) (h : LeastOf r c) : rowL c = r := by
  have e := free_rowL fr
  rw [← e] at h
  rw [least_uniq (rings_nn fr) h, e]
/-- what is asked of the least row, number by number -/
theorem least_at {r c : List Int} (h : LeastOf r c) {j : Nat} (hj : j < r.length) : (rowL c).getD j 0 = part c j j + ((j + 1 : Nat) : Int) * c.getD j 0 ∧ 0 ≤ part c j j ∧ r.getD j 0 ≤ (rowL c).getD j 0 ∧ (0 < ((j + 1 : Nat) : Int) * c.getD j 0 → (rowL c).getD j 0 - ((j + 1 : Nat) : Int) < r.getD j 0) := by
  obtain ⟨hl, hn, le⟩ := h
  have e := le j (by omega)
  have ep : ∀ k, 0 ≤ part c j k := by
    intro k
    induction k with
    | zero => exact Int.le_refl _
    | succ k ih =>
      show 0 ≤ part c j k + _
      have : 0 ≤ ((k + 1 : Nat) : Int) * c.getD k 0 := Int.mul_nonneg (by omega) (getD_nn' hn k)
      split <;> omega
  have er : (rowL c).getD j 0 = part c j j + ((j + 1 : Nat) : Int) * c.getD j 0 := by
    unfold rowL
    rw [tab_getD (by omega), part_top]
  have m0 := Int.emod_nonneg (-lk (r.getD j 0 - part c j j)) (show ((j + 1 : Nat) : Int) ≠ 0 by omega)
  have m1 := Int.emod_lt_of_pos (-lk (r.getD j 0 - part c j j)) (show (0 : Int) < ((j + 1 : Nat) : Int) by omega)
  refine ⟨er, ep j, ?_, fun hpos => ?_⟩
  · rw [er, ← e]
    have : r.getD j 0 - part c j j ≤ lk (r.getD j 0 - part c j j) := by
      unfold lk
      split <;> omega
    omega
  · rw [er, ← e]
    rw [← e] at hpos
    by_cases d0 : r.getD j 0 - part c j j > 0
    · have el : lk (r.getD j 0 - part c j j) = r.getD j 0 - part c j j := if_pos d0
      rw [el] at m1 ⊢
      omega
    · have el : lk (r.getD j 0 - part c j j) = 0 := if_neg d0
      rw [el, Int.neg_zero, Int.zero_emod] at hpos
      omega
theorem least_wide {r c : List Int} (ok : RowOk r) (h : LeastOf r c) : wide 1900 (rowL c) ∧ (rowL c).length ≤ 4000 := by
  obtain ⟨h0, h1, h2⟩ := ok
  have hl := h.1
  have e170 : (2 : Int) ^ 170 = 1496577676626844588240573268701473812127674924007424 := by decide
  rw [e170] at h2
  have term : ∀ j, j < r.length → 0 ≤ ((j + 1 : Nat) : Int) * c.getD j 0 ∧ ((j + 1 : Nat) : Int) * c.getD j 0 ≤ 2000000000000000000000000000000000000000000000000000 := by
    intro j hj
    obtain ⟨e1, e2, e3, e4⟩ := least_at h hj
    have p : 0 ≤ ((j + 1 : Nat) : Int) * c.getD j 0 := Int.mul_nonneg (by omega) (getD_nn' h.2.1 j)
    refine ⟨p, ?_⟩
    have hr := h2 _ (List.getElem_mem hj)
    have er : r.getD j 0 = r[j] := by
      rw [List.getD_eq_getElem?_getD, List.getElem?_eq_getElem hj]
      rfl
    by_cases q : 0 < ((j + 1 : Nat) : Int) * c.getD j 0
    · have := e4 q
      omega
    · omega
  have bound : ∀ i k : Nat, k ≤ r.length → 0 ≤ part c i k ∧ part c i k ≤ (k : Int) * 2000000000000000000000000000000000000000000000000000 := by
    intro i k
    induction k with
    | zero => exact fun _ => ⟨Int.le_refl _, by show (0 : Int) ≤ (0 : Int) * _; omega⟩
    | succ k ih =>
      intro hk
      have := ih (by omega)
      have := term k (by omega)
      show 0 ≤ part c i k + _ ∧ part c i k + _ ≤ _
      split <;> omega
  refine ⟨(wide_lt (k := 200) (by decide) fun n hn => ?_).mono (by decide), by rw [rowL_length]; omega⟩
  obtain ⟨i, hi, rfl⟩ := List.mem_map.mp hn
  have hi := List.mem_range.mp hi
  have := bound i (i + 1) (by omega)
  have e2 : (2 : Nat) ^ 200 = 1606938044258990275541962092341162602522202993782792835301376 := by decide
  rw [e2]
  omega
theorem part_sum' (c : List Int) (i : Nat) : ∀ k : Nat, (((List.range k).filter fun d : Nat => decide ((1 + (i : Int)) % (1 + (d : Int)) = 0)).map fun d : Nat => (1 + (d : Int)) * c.getD d 0).sum = part c i k
  | 0 => rfl
  | k + 1 => by
    have ih := part_sum' c i k
    have e : ((1 + (i : Int)) % (1 + (k : Int)) = 0) ↔ (i + 1) % (k + 1) = 0 := by
      have : ((1 + (i : Int)) % (1 + (k : Int))) = (((i + 1) % (k + 1) : Nat) : Int) := by
        rw [Int.natCast_emod, Int.natCast_add, Int.natCast_add, Int.add_comm 1, Int.add_comm 1]
        rfl
      rw [this]
      omega
    rw [List.range_succ, List.filter_append, List.map_append, List.sum_append, ih]
    show _ = part c i k + _
    by_cases h : (i + 1) % (k + 1) = 0
    · rw [if_pos h, List.filter_cons, if_pos (decide_eq_true (e.mpr h))]
      simp only [List.filter_nil, List.map_cons, List.map_nil, List.sum_cons, List.sum_nil]
      rw [Int.add_zero, show (1 : Int) + (k : Int) = ((k + 1 : Nat) : Int) by omega]
    · rw [if_neg h, List.filter_cons, if_neg (by simpa using fun z => h (e.mp z))]
      rfl

/-! ### live rows -/
theorem n_ne_c : ¬ (("_numbers" : Str) = "_counts") := by decide +kernel
theorem c_ne_n : ¬ (("_counts" : Str) = "_numbers") := by decide +kernel
def lf (l1 l2 : Addr) : List (Str × V) := putF "_counts" (.ref l2) (putF "_numbers" (.ref l1) [])
theorem lf_n (l1 l2 : Addr) : (lf l1 l2).lookup ("_numbers" : Str) = some (.ref l1) := by
  unfold lf
  rw [lookup_putF, if_neg n_ne_c, lookup_putF, if_pos rfl]
theorem lf_c (l1 l2 : Addr) : (lf l1 l2).lookup ("_counts" : Str) = some (.ref l2) := by
  unfold lf
  rw [lookup_putF, if_pos rfl]
theorem lf_no (l1 l2 : Addr) {m : Str} (h1 : ¬ m = "_counts") (h2 : ¬ m = "_numbers") : (lf l1 l2).lookup m = none := by
  unfold lf
  rw [lookup_putF, if_neg h1, lookup_putF, if_neg h2]
  rfl
/-- what is back in any case -/
def low (cs : List Int) : Int := part cs cs.length cs.length
/-- how far the numbers that may come are from one another -/
def stp (cs : List Int) : Int := 1 + (cs.length : Int)
theorem stp_pos (cs : List Int) : 0 < stp cs := by
  unfold stp
  omega
def mc (cs : List Int) (m : Int) : Bool := decide (low cs ≤ m) && decide ((m - low cs) % stp cs = 0)
theorem mc_yes (cs : List Int) {c : Int} (hc : 0 ≤ c) : mc cs (low cs + stp cs * c) = true := by
  have h := Int.mul_nonneg (Int.le_of_lt (stp_pos cs)) hc
  unfold mc
  rw [decide_eq_true (by omega), decide_eq_true]
  · rfl
  · rw [show low cs + stp cs * c - low cs = stp cs * c by omega, Int.mul_emod_right]
theorem mc_div (cs : List Int) (c : Int) : (low cs + stp cs * c - low cs) / stp cs = c := by
  rw [show low cs + stp cs * c - low cs = stp cs * c by omega, Int.mul_ediv_cancel_left _ (by have := stp_pos cs; omega)]
theorem mc_low (cs : List Int) {m : Int} (h : m < low cs) : mc cs m = false := by
  unfold mc
  rw [decide_eq_false (by omega)]
  rfl
theorem mc_off (cs : List Int) (c : Int) {r : Int} (r0 : 0 < r) (r1 : r < stp cs) : mc cs (low cs + stp cs * c + r) = false := by
  unfold mc
  rw [show low cs + stp cs * c + r - low cs = r + stp cs * c by omega, Int.add_mul_emod_self_left, Int.emod_eq_of_lt (by omega) r1, decide_eq_false (show ¬ r = 0 by omega), Bool.and_false]
theorem rowL_snoc (cs : List Int) (x : Int) : rowL (cs ++ [x]) = rowL cs ++ [low cs + stp cs * x] := by
  unfold rowL
  rw [List.length_append, show ([x] : List Int).length = 1 from rfl]
  unfold tabL
  rw [List.range_succ, List.map_append]
  have e1 : (List.range cs.length).map (fun i => part (cs ++ [x]) i (i + 1)) = (List.range cs.length).map fun i => part cs i (i + 1) := List.map_congr_left fun i hi => part_app cs x i (i + 1) (List.mem_range.mp hi)
  rw [e1]
  congr 1
  show [part (cs ++ [x]) cs.length (cs.length + 1)] = _
  rw [part_push rfl, if_pos (Nat.mod_self _)]
  unfold low stp
  congr 2
  congr 1
  omega
def thg (cs : List Int) : Int := ((List.range cs.length).map fun k : Nat => (1 + (k : Int)) * cs.getD k 0).sum
/-- a live row stands at p -/
def Liv (C : Addr) (H : Hp) (p l1 l2 : Addr) (cs : List Int) : Prop := (∃ dx, H p = some (.ins C dx (lf l1 l2))) ∧ H l1 = some (.lst (vi (rowL cs))) ∧ H l2 = some (.lst (vi cs)) ∧ l1 ≠ l2 ∧ ∀ c ∈ cs, 0 ≤ c
theorem Liv.ex {C p l1 l2 : Addr} {H H' : Hp} {cs : List Int} (h : Liv C H p l1 l2 cs) (e : Ex H H') : Liv C H' p l1 l2 cs := by
  obtain ⟨⟨dx, a⟩, b, c, d⟩ := h
  exact ⟨⟨dx, e _ _ a⟩, e _ _ b, e _ _ c, d⟩
theorem Liv.off {C p l1 l2 : Addr} {H H' : Hp} {cs : List Int} {S : List Addr} (h : Liv C H p l1 l2 cs) (o : Off S H H') (hp : p ∉ S) (h1 : l1 ∉ S) (h2 : l2 ∉ S) : Liv C H' p l1 l2 cs := by
  obtain ⟨⟨dx, a⟩, b, c, d⟩ := h
  exact ⟨⟨dx, o _ _ hp a⟩, o _ _ h1 b, o _ _ h2 c, d⟩
theorem ins_lst {C p l dx : Addr} {fs : List (Str × V)} {H : Hp} {xs : List V} (h : H p = some (.ins C dx fs)) (g : H l = some (.lst xs)) : p ≠ l := fun z => by
  rw [z, g] at h
  cases h
theorem Liv.ne1 {C p l1 l2 l : Addr} {H : Hp} {cs : List Int} {xs : List V} (h : Liv C H p l1 l2 cs) (g : H l = some (.lst xs)) : p ≠ l := by
  obtain ⟨⟨dx, a⟩, _⟩ := h
  exact ins_lst a g
/-- a new live row -/
def EvO (C : Addr) (te : TE) (σ : L2.St) (H : Hp) : Prop := ∀ H1, Ex H H1 → ∀ Q : VK, (∀ p l1 l2 H2, H1 p = none → H1 l1 = none → H1 l2 = none → Ex H1 H2 → Liv C H2 p l1 l2 [] → Q (.ref p) H2) → te σ H1 Q
theorem q_parOO {C : Addr} {ta tb : TE} {tz : TS} {D : Ends} {σ : L2.St} {H : Hp} {i j : Nat} (h1 : EvO C ta σ H) (h2 : EvO C tb σ H)
    (k : ∀ p l1 l2 q m1 m2 H1, H p = none → H l1 = none → H l2 = none → H q = none → H m1 = none → H m2 = none → Ex H H1 → Liv C H1 p l1 l2 [] → Liv C H1 q m1 m2 [] → (l1 ≠ m1 ∧ l1 ≠ m2 ∧ l2 ≠ m1 ∧ l2 ≠ m2 ∧ p ≠ q) → tz D ((σ.set i (some (.ref p))).set j (some (.ref q))) H1) :
    tSeq (tPar i j (tCons ta (tCons tb tNil))) tz D σ H := h1 H (Ex.refl H) _ fun p l1 l2 H2 a1 a2 a3 e2 L => h2 H2 e2 _ fun q m1 m2 H3 b1 b2 b3 e3 M =>
  ⟨_, _, rfl, k p l1 l2 q m1 m2 H3 a1 a2 a3 (fresh_back e2 b1) (fresh_back e2 b2) (fresh_back e2 b3) (e2.trans e3) (L.ex e3) M ⟨ne_of_none L.2.1 b2, ne_of_none L.2.1 b3, ne_of_none L.2.2.1 b2, ne_of_none L.2.2.1 b3, by
    obtain ⟨⟨dx, a⟩, _⟩ := L
    exact ne_of_none a b1⟩⟩
theorem q_asgO {C : Addr} {te : TE} {tz : TS} {D : Ends} {σ : L2.St} {H : Hp} {i : Nat} (h : EvO C te σ H) (k : ∀ p l1 l2 H1, H p = none → H l1 = none → H l2 = none → Ex H H1 → Liv C H1 p l1 l2 [] → tz D (σ.set i (some (.ref p))) H1) : tSeq (tAsg te (gName i)) tz D σ H :=
  h H (Ex.refl H) _ fun p l1 l2 H2 a1 a2 a3 e2 L => k p l1 l2 H2 a1 a2 a3 e2 L
theorem sum_div (cs : List Int) : (((List.range cs.length).filter fun d : Nat => decide ((1 + (cs.length : Int)) % (1 + (d : Int)) = 0)).map fun d : Nat => (1 + (d : Int)) * cs.getD d 0).sum = low cs := part_sum' cs cs.length cs.length
theorem take_getD (cs : List Int) {k d : Nat} (h : d < k) : (cs.take k).getD d 0 = cs.getD d 0 := by
  rw [List.getD_eq_getElem?_getD, List.getD_eq_getElem?_getD, List.getElem?_take_of_lt h]
theorem take_part (cs : List Int) (i : Nat) {k : Nat} : ∀ j, j ≤ k → part (cs.take k) i j = part cs i j := fun j hj => part_same fun d hd => take_getD cs (by omega)
theorem take_len {cs : List Int} {k : Nat} (h : k ≤ cs.length) : (cs.take k).length = k := by rw [List.length_take]; omega
theorem num_at {cs : List Int} {k : Nat} (h : k < cs.length) : (rowL cs).getD k 0 = low (cs.take k) + stp (cs.take k) * cs.getD k 0 := by
  have e : (rowL cs).getD k 0 = part cs k (k + 1) := by
    unfold rowL
    exact tab_getD h
  unfold low stp
  rw [e, part_top, take_len (by omega), take_part cs k k (Nat.le_refl _)]
  congr 2
  omega
theorem take_snoc {cs : List Int} {k : Nat} (h : k < cs.length) : cs.take k ++ [cs.getD k 0] = cs.take (k + 1) := by
  rw [List.take_succ, List.getD_eq_getElem?_getD, List.getElem?_eq_getElem h]
  rfl
theorem rowL_take {cs : List Int} {k : Nat} (h : k ≤ cs.length) : rowL (cs.take k) = (rowL cs).take k := by
  unfold rowL
  rw [take_len h]
  unfold tabL
  rw [← List.map_take, List.take_range, Nat.min_eq_left h]
  exact List.map_congr_left fun i hi => take_part cs i (i + 1) (List.mem_range.mp hi)

/-! ### the first bar -/
def barAt (r : List Int) (i : Nat) : Option Str := if (newL r).getD i 0 % ((i + 1 : Nat) : Int) ≠ 0 then some "rest" else if (newL r).getD i 0 < 0 then some "below" else none
def barF (r : List Int) : Nat → Option (Nat × Str)
  | 0 => none
  | k + 1 => match barF r k with
    | some b => some b
    | none => match barAt r k with
      | some s => some (k + 1, s)
      | none => none
def bar (r : List Int) : Option (Nat × Str) := barF r r.length
theorem barF_stay {r : List Int} {k : Nat} {b : Nat × Str} (h : barF r k = some b) : ∀ m, k ≤ m → barF r m = some b
  | 0, hm => by
    rw [show k = 0 by omega] at h
    exact h
  | m + 1, hm => by
    by_cases e : k = m + 1
    · rw [← e]
      exact h
    · have ih := barF_stay h m (by omega)
      show (match barF r m with | some b => some b | none => _) = _
      rw [ih]
theorem barF_next {r : List Int} {k : Nat} (h : barF r k = none) : barF r (k + 1) = (barAt r k).map fun s => (k + 1, s) := by
  show (match barF r k with | some b => some b | none => _) = _
  rw [h]
  cases barAt r k with
  | none => rfl
  | some s => rfl
theorem bar_hit {r : List Int} {k : Nat} {s : Str} (h : barF r k = none) (hs : barAt r k = some s) (hk : k < r.length) : bar r = some (k + 1, s) := by
  refine barF_stay (k := k + 1) ?_ _ (by omega)
  rw [barF_next h, hs]
  rfl
theorem barF_none {r : List Int} : ∀ {k : Nat}, barF r k = none ↔ ∀ i, i < k → barAt r i = none
  | 0 => ⟨fun _ i h => absurd h (Nat.not_lt_zero _), fun _ => rfl⟩
  | k + 1 => by
    constructor
    · intro h i hi
      cases g : barF r k with
      | some b =>
        rw [barF_stay g (k + 1) (by omega)] at h
        cases h
      | none =>
        by_cases e : i = k
        · rw [barF_next g] at h
          rw [e]
          cases q : barAt r k with
          | none => rfl
          | some s =>
            rw [q] at h
            cases h
        · exact barF_none.mp g i (by omega)
    · intro h
      rw [barF_next (barF_none.mpr fun i hi => h i (by omega)), h k (by omega)]
      rfl
theorem barAt_none {r : List Int} {i : Nat} : barAt r i = none ↔ ∃ q : Int, 0 ≤ q ∧ (newL r).getD i 0 = ((i + 1 : Nat) : Int) * q := by
  unfold barAt
  constructor
  · intro h
    by_cases c : (newL r).getD i 0 % ((i + 1 : Nat) : Int) ≠ 0
    · rw [if_pos c] at h
      cases h
    · rw [if_neg c] at h
      by_cases c2 : (newL r).getD i 0 < 0
      · rw [if_pos c2] at h
        cases h
      · have c' : (newL r).getD i 0 % ((i + 1 : Nat) : Int) = 0 := Decidable.of_not_not c
        exact ⟨(newL r).getD i 0 / ((i + 1 : Nat) : Int), Int.ediv_nonneg (by omega) (by omega), (Int.mul_ediv_cancel' (Int.dvd_of_emod_eq_zero c')).symm⟩
  · rintro ⟨q, q0, e⟩
    have : 0 ≤ ((i + 1 : Nat) : Int) * q := Int.mul_nonneg (by omega) q0
    rw [e, if_neg (by rw [Int.mul_emod_right]; simp), if_neg (by omega)]
theorem bar_free {r : List Int} : bar r = none ↔ Free r := by
  unfold bar
  rw [barF_none]
  exact ⟨fun h i hi => barAt_none.mp (h i hi), fun h i hi => barAt_none.mpr (h i hi)⟩
theorem bar_isN (r : List Int) : (bar r).isNone = true ↔ Free r := by rw [Option.isNone_iff_eq_none, bar_free]
theorem bar_of_free {r : List Int} (h : Free r) : (bar r).isNone = true := (bar_isN r).mpr h
def fn (xs : List Int) (k : Nat) : Int := xs.getD k 0
theorem fn_out {xs : List Int} {i : Nat} (h : xs.length ≤ i) : fn xs i = 0 := by
  unfold fn
  rw [List.getD_eq_getElem?_getD, List.getElem?_eq_none h]
  rfl
theorem fn_ext {xs ys : List Int} (hl : xs.length = ys.length) (h : ∀ i, i < xs.length → fn xs i = fn ys i) : xs = ys := by
  refine List.ext_getElem hl fun i h1 h2 => ?_
  have := h i h1
  unfold fn at this
  rw [List.getD_eq_getElem?_getD, List.getD_eq_getElem?_getD, List.getElem?_eq_getElem h1, List.getElem?_eq_getElem h2] at this
  exact this

/-! ### holes: rests that must be the same, and bounds -/
def fwr (start step rest : Int) (n : Nat) : Option Int := ((List.range n).find? fun k : Nat => decide ((start + (k : Int) * step) % (n : Int) = rest)).map fun k : Nat => start + (k : Int) * step
theorem find_at {p : Nat → Bool} {n k : Nat} (h : ∀ j, j < k → p j = false) (hk : p k = true) (hn : k < n) : (List.range n).find? p = some k := by
  induction n with
  | zero => omega
  | succ n ih =>
    rw [List.range_succ, List.find?_append]
    by_cases e : k = n
    · subst e
      rw [List.find?_eq_none.mpr fun x hx => by rw [h x (List.mem_range.mp hx)]; exact fun z => nomatch z]
      simp [hk]
    · rw [ih (by omega)]
      rfl
theorem find_no {p : Nat → Bool} {n : Nat} (h : ∀ j, j < n → p j = false) : (List.range n).find? p = none :=
  List.find?_eq_none.mpr fun x hx => by rw [h x (List.mem_range.mp hx)]; exact fun z => nomatch z
theorem fwr_some {start step rest : Int} {n : Nat} {r : Int} (h : fwr start step rest n = some r) : step ∣ r - start ∧ r % (n : Int) = rest ∧ ∃ k : Nat, k < n ∧ r = start + (k : Int) * step := by
  unfold fwr at h
  cases e : (List.range n).find? fun k : Nat => decide ((start + (k : Int) * step) % (n : Int) = rest) with
  | none => rw [e] at h; cases h
  | some k =>
    rw [e] at h
    cases h
    have h1 := List.find?_some e
    have h2 := List.mem_range.mp (List.mem_of_find?_eq_some e)
    exact ⟨⟨(k : Int), by show start + (k : Int) * step - start = step * (k : Int); rw [Int.mul_comm step]; omega⟩, of_decide_eq_true h1, k, h2, rfl⟩
theorem fwr_none {start step rest : Int} {n : Nat} (hn : 0 < n) (h : fwr start step rest n = none) (x : Int) (hx : step ∣ x - start) : x % (n : Int) ≠ rest := by
  unfold fwr at h
  obtain ⟨q, hq⟩ := hx
  intro z
  cases e : (List.range n).find? fun k : Nat => decide ((start + (k : Int) * step) % (n : Int) = rest) with
  | some k => rw [e] at h; cases h
  | none =>
    have h0 := Int.emod_nonneg q (show (n : Int) ≠ 0 by omega)
    have h1 := Int.emod_lt_of_pos q (show (0 : Int) < n by omega)
    have hk := List.find?_eq_none.mp e (q % (n : Int)).toNat (List.mem_range.mpr (by omega))
    refine hk (decide_eq_true ?_)
    rw [Int.toNat_of_nonneg h0, ← z]
    have e1 : x = start + q * step := by rw [Int.mul_comm] at hq; omega
    have e2 : q = (n : Int) * (q / (n : Int)) + q % (n : Int) := (Int.mul_ediv_add_emod q n).symm
    rw [e1]
    have e3 : start + q * step = start + q % (n : Int) * step + (n : Int) * (q / (n : Int) * step) := by
      have : q * step = ((n : Int) * (q / (n : Int)) + q % (n : Int)) * step := by rw [← e2]
      rw [this, Int.add_mul, Int.mul_assoc]
      omega
    rw [e3, Int.add_mul_emod_self_left]
def crtF (fx sh : List Int) : Nat → Option (Int × Nat)
  | 0 => some (0, 1)
  | i + 1 => match crtF fx sh i with
    | none => none
    | some (rest, step) => if fn sh i = 0 then (if fn fx i % ((i + 1 : Nat) : Int) ≠ 0 then none else some (rest, step)) else
      match fwr rest (step : Int) ((-(fn sh i) * fn fx i) % ((i + 1 : Nat) : Int)) (i + 1) with
      | none => none
      | some r => some (r, Nat.lcm step (i + 1))
theorem crtF_none {fx sh : List Int} {i : Nat} (h : crtF fx sh i = none) : ∀ {k : Nat}, i ≤ k → crtF fx sh k = none := by
  intro k hk
  induction k with
  | zero => rw [show 0 = i by omega]; exact h
  | succ k ih =>
    by_cases e : i = k + 1
    · rw [← e]; exact h
    · rw [crtF, ih (by omega)]
def RestOk (fx sh : List Int) (N : Nat) (x : Int) : Prop := ∀ i, i < N → (fn fx i + fn sh i * x) % ((i + 1 : Nat) : Int) = 0
def Sgn (sh : List Int) (N : Nat) : Prop := ∀ i, i < N → fn sh i = 0 ∨ fn sh i = 1 ∨ fn sh i = -1
theorem mod_iff {a b : Int} {n : Nat} (hn : 0 < n) : a % (n : Int) = b % (n : Int) ↔ (n : Int) ∣ a - b := by
  constructor
  · intro h
    exact Int.dvd_of_emod_eq_zero (by rw [Int.sub_emod, h, Int.sub_self, Int.zero_emod])
  · rintro ⟨q, hq⟩
    have : a = b + (n : Int) * q := by omega
    rw [this, Int.add_mul_emod_self_left]
theorem rest_iff {f s x : Int} {n : Nat} (hn : 0 < n) (hs : s = 1 ∨ s = -1) : (f + s * x) % (n : Int) = 0 ↔ x % (n : Int) = (-s * f) % (n : Int) := by
  rw [mod_iff hn]
  rcases hs with rfl | rfl
  · rw [show x - -1 * f = f + 1 * x by omega]
    exact ⟨Int.dvd_of_emod_eq_zero, Int.emod_eq_zero_of_dvd⟩
  · rw [show x - -(-1) * f = -(f + -1 * x) by omega, Int.dvd_neg]
    exact ⟨Int.dvd_of_emod_eq_zero, Int.emod_eq_zero_of_dvd⟩
theorem lcm_dvd_iff {m n : Nat} {z : Int} : ((Nat.lcm m n : Nat) : Int) ∣ z ↔ (m : Int) ∣ z ∧ (n : Int) ∣ z := by
  rw [Int.ofNat_dvd_left, Int.ofNat_dvd_left, Int.ofNat_dvd_left]
  exact ⟨fun h => ⟨Nat.dvd_trans (Nat.dvd_lcm_left m n) h, Nat.dvd_trans (Nat.dvd_lcm_right m n) h⟩, fun h => Nat.lcm_dvd h.1 h.2⟩
theorem crtF_ok {fx sh : List Int} : ∀ {N : Nat}, Sgn sh N → match crtF fx sh N with
    | none => ∀ x, ¬ RestOk fx sh N x
    | some (rest, step) => 1 ≤ step ∧ ∀ x, RestOk fx sh N x ↔ (step : Int) ∣ x - rest
  | 0, _ => ⟨by decide, fun x => ⟨fun _ => ⟨x - 0, by omega⟩, fun _ i hi => by omega⟩⟩
  | N + 1, hs => by
    have ih := crtF_ok (fx := fx) (sh := sh) (N := N) fun i hi => hs i (by omega)
    have split : ∀ x, RestOk fx sh (N + 1) x ↔ RestOk fx sh N x ∧ (fn fx N + fn sh N * x) % ((N + 1 : Nat) : Int) = 0 := fun x =>
      ⟨fun h => ⟨fun i hi => h i (by omega), h N (Nat.lt_succ_self N)⟩, fun h i hi => by
        by_cases e : i = N
        · rw [e]; exact h.2
        · exact h.1 i (by omega)⟩
    rw [crtF]
    cases e : crtF fx sh N with
    | none =>
      rw [e] at ih
      exact fun x h => ih x ((split x).mp h).1
    | some p =>
      obtain ⟨rest, step⟩ := p
      rw [e] at ih
      obtain ⟨s1, ih⟩ := ih
      show match (if fn sh N = 0 then (if fn fx N % ((N + 1 : Nat) : Int) ≠ 0 then none else some (rest, step)) else
        match fwr rest (step : Int) ((-(fn sh N) * fn fx N) % ((N + 1 : Nat) : Int)) (N + 1) with
        | none => none
        | some r => some (r, Nat.lcm step (N + 1))) with
        | none => ∀ x, ¬ RestOk fx sh (N + 1) x
        | some (rest, step) => 1 ≤ step ∧ ∀ x, RestOk fx sh (N + 1) x ↔ (step : Int) ∣ x - rest
      by_cases z : fn sh N = 0
      · rw [if_pos z]
        by_cases c : fn fx N % ((N + 1 : Nat) : Int) ≠ 0
        · rw [if_pos c]
          intro x h
          have := ((split x).mp h).2
          rw [z, Int.zero_mul, Int.add_zero] at this
          exact c this
        · rw [if_neg c]
          refine ⟨s1, fun x => ?_⟩
          rw [split, ih x, z, Int.zero_mul, Int.add_zero]
          exact ⟨fun h => h.1, fun h => ⟨h, Decidable.not_not.mp c⟩⟩
      · rw [if_neg z]
        have hs' : fn sh N = 1 ∨ fn sh N = -1 := (hs N (Nat.lt_succ_self N)).resolve_left z
        have ri := fun x => rest_iff (f := fn fx N) (x := x) (Nat.succ_pos N) hs'
        cases ef : fwr rest (step : Int) ((-(fn sh N) * fn fx N) % ((N + 1 : Nat) : Int)) (N + 1) with
        | none =>
          intro x h
          obtain ⟨h1, h2⟩ := (split x).mp h
          exact fwr_none (Nat.succ_pos N) ef x ((ih x).mp h1) ((ri x).mp h2)
        | some r =>
          obtain ⟨f1, f2, _⟩ := fwr_some ef
          refine ⟨Nat.lcm_pos s1 (Nat.succ_pos N), fun x => ?_⟩
          rw [split, ih x, ri x, lcm_dvd_iff, ← f2, mod_iff (Nat.succ_pos N)]
          have e1 : (step : Int) ∣ x - rest ↔ (step : Int) ∣ x - r := by
            constructor
            · intro h
              have := Int.dvd_sub h f1
              rw [show x - rest - (r - rest) = x - r by omega] at this
              exact this
            · intro h
              have := Int.dvd_add h f1
              rw [show x - r + (r - rest) = x - rest by omega] at this
              exact this
          rw [e1]
def onesL (fx sh : List Int) (N : Nat) : List Int := ((List.range N).filter fun i => decide (fn sh i = 1)).map fun i => -(fn fx i)
def topsL (fx sh : List Int) (N : Nat) : List Int := ((List.range N).filter fun i => decide (fn sh i = -1)).map fun i => fn fx i
def maxL (xs : List Int) : Int := xs.foldl max (xs.getD 0 0)
def minL (xs : List Int) : Int := xs.foldl min (xs.getD 0 0)
theorem foldl_max : ∀ (xs : List Int) (a : Int), a ≤ xs.foldl max a ∧ (∀ y ∈ xs, y ≤ xs.foldl max a) ∧ (xs.foldl max a = a ∨ xs.foldl max a ∈ xs)
  | [], a => ⟨Int.le_refl _, (fun _ h => nomatch h), .inl rfl⟩
  | x :: xs, a => by
    obtain ⟨h1, h2, h3⟩ := foldl_max xs (max a x)
    refine ⟨?_, fun y hy => ?_, ?_⟩
    · show a ≤ xs.foldl max (max a x)
      omega
    · show y ≤ xs.foldl max (max a x)
      rcases List.mem_cons.mp hy with rfl | hy
      · omega
      · exact h2 y hy
    · show xs.foldl max (max a x) = a ∨ xs.foldl max (max a x) ∈ x :: xs
      rcases h3 with h3 | h3
      · by_cases c : a ≤ x
        · right
          rw [h3, Int.max_eq_right c]
          exact List.mem_cons_self
        · left
          rw [h3, Int.max_eq_left (by omega)]
      · exact .inr (List.mem_cons_of_mem _ h3)
theorem foldl_min : ∀ (xs : List Int) (a : Int), xs.foldl min a ≤ a ∧ (∀ y ∈ xs, xs.foldl min a ≤ y) ∧ (xs.foldl min a = a ∨ xs.foldl min a ∈ xs)
  | [], a => ⟨Int.le_refl _, (fun _ h => nomatch h), .inl rfl⟩
  | x :: xs, a => by
    obtain ⟨h1, h2, h3⟩ := foldl_min xs (min a x)
    refine ⟨?_, fun y hy => ?_, ?_⟩
    · show xs.foldl min (min a x) ≤ a
      omega
    · show xs.foldl min (min a x) ≤ y
      rcases List.mem_cons.mp hy with rfl | hy
      · omega
      · exact h2 y hy
    · show xs.foldl min (min a x) = a ∨ xs.foldl min (min a x) ∈ x :: xs
      rcases h3 with h3 | h3
      · by_cases c : a ≤ x
        · left
          rw [h3, Int.min_eq_left c]
        · right
          rw [h3, Int.min_eq_right (by omega)]
          exact List.mem_cons_self
      · exact .inr (List.mem_cons_of_mem _ h3)
theorem maxL_ok {xs : List Int} (h : xs ≠ []) : maxL xs ∈ xs ∧ ∀ y ∈ xs, y ≤ maxL xs := by
  cases xs with
  | nil => exact absurd rfl h
  | cons x r =>
    obtain ⟨h1, h2, h3⟩ := foldl_max (x :: r) x
    refine ⟨?_, h2⟩
    rcases h3 with h3 | h3
    · show (x :: r).foldl max x ∈ _
      rw [h3]
      exact List.mem_cons_self
    · exact h3
theorem minL_ok {xs : List Int} (h : xs ≠ []) : minL xs ∈ xs ∧ ∀ y ∈ xs, minL xs ≤ y := by
  cases xs with
  | nil => exact absurd rfl h
  | cons x r =>
    obtain ⟨h1, h2, h3⟩ := foldl_min (x :: r) x
    refine ⟨?_, h2⟩
    rcases h3 with h3 | h3
    · show (x :: r).foldl min x ∈ _
      rw [h3]
      exact List.mem_cons_self
    · exact h3
def negZ (fx sh : List Int) (N : Nat) : Bool := (List.range N).any fun i => decide (fn sh i = 0) && decide (fn fx i < 0)
def fstH (least rest : Int) (step : Nat) : Int := least + (rest - least) % (step : Int)
def lstH (most rest : Int) (step : Nat) : Int := most - (most - rest) % (step : Int)
def holeF (fx sh : List Int) (N : Nat) : Option (Int × Int × Option Int) :=
  if negZ fx sh N = true then none else match crtF fx sh N with
    | none => none
    | some (rest, step) =>
      if topsL fx sh N = [] then some (fstH (maxL (onesL fx sh N)) rest step, (step : Int), none)
      else if lstH (minL (topsL fx sh N)) rest step < fstH (maxL (onesL fx sh N)) rest step then none
      else some (fstH (maxL (onesL fx sh N)) rest step, (if fstH (maxL (onesL fx sh N)) rest step = lstH (minL (topsL fx sh N)) rest step then 0 else (step : Int)), some (lstH (minL (topsL fx sh N)) rest step))
/-- it fits: no rest, none below -/
def Fits (fx sh : List Int) (N : Nat) (x : Int) : Prop := ∀ i, i < N → (fn fx i + fn sh i * x) % ((i + 1 : Nat) : Int) = 0 ∧ 0 ≤ fn fx i + fn sh i * x
theorem first_iff {least rest x : Int} {step : Nat} (hs : 1 ≤ step) (hx : (step : Int) ∣ x - rest) : least ≤ x ↔ fstH least rest step ≤ x := by
  unfold fstH
  have h0 := Int.emod_nonneg (rest - least) (show (step : Int) ≠ 0 by omega)
  have h1 := Int.emod_lt_of_pos (rest - least) (show (0 : Int) < step by omega)
  refine ⟨fun h => ?_, fun h => by omega⟩
  have e := Int.mul_ediv_add_emod (rest - least) step
  obtain ⟨q, hq⟩ := hx
  -- x - least = step * (q + (rest - least) / step) + r with r the rest
  have e2 : x - least = (step : Int) * (q + (rest - least) / (step : Int)) + (rest - least) % (step : Int) := by
    rw [Int.mul_add]
    omega
  have : 0 ≤ q + (rest - least) / (step : Int) := by
    rcases Int.lt_or_le (q + (rest - least) / (step : Int)) 0 with z | z
    · have : (step : Int) * (q + (rest - least) / (step : Int)) ≤ (step : Int) * (-1) := Int.mul_le_mul_of_nonneg_left (by omega) (by omega)
      omega
    · exact z
  have : 0 ≤ (step : Int) * (q + (rest - least) / (step : Int)) := Int.mul_nonneg (by omega) this
  omega
theorem last_iff {most rest x : Int} {step : Nat} (hs : 1 ≤ step) (hx : (step : Int) ∣ x - rest) : x ≤ most ↔ x ≤ lstH most rest step := by
  unfold lstH
  have h0 := Int.emod_nonneg (most - rest) (show (step : Int) ≠ 0 by omega)
  have h1 := Int.emod_lt_of_pos (most - rest) (show (0 : Int) < step by omega)
  refine ⟨fun h => ?_, fun h => by omega⟩
  have e := Int.mul_ediv_add_emod (most - rest) step
  obtain ⟨q, hq⟩ := hx
  have e2 : most - x = (step : Int) * ((most - rest) / (step : Int) - q) + (most - rest) % (step : Int) := by
    rw [Int.mul_sub]
    omega
  have : 0 ≤ (most - rest) / (step : Int) - q := by
    rcases Int.lt_or_le ((most - rest) / (step : Int) - q) 0 with z | z
    · have : (step : Int) * ((most - rest) / (step : Int) - q) ≤ (step : Int) * (-1) := Int.mul_le_mul_of_nonneg_left (by omega) (by omega)
      omega
    · exact z
  have : 0 ≤ (step : Int) * ((most - rest) / (step : Int) - q) := Int.mul_nonneg (by omega) this
  omega
theorem first_on {least rest : Int} {step : Nat} (hs : 1 ≤ step) : (step : Int) ∣ fstH least rest step - rest := by
  unfold fstH
  have e := Int.mul_ediv_add_emod (rest - least) step
  exact ⟨-((rest - least) / (step : Int)), by rw [Int.mul_neg]; omega⟩
theorem last_on {most rest : Int} {step : Nat} (hs : 1 ≤ step) : (step : Int) ∣ lstH most rest step - rest := by
  unfold lstH
  have e := Int.mul_ediv_add_emod (most - rest) step
  exact ⟨(most - rest) / (step : Int), by omega⟩
theorem ones_mem {fx sh : List Int} {N : Nat} {z : Int} : z ∈ onesL fx sh N ↔ ∃ i, i < N ∧ fn sh i = 1 ∧ z = -(fn fx i) := by
  unfold onesL
  rw [List.mem_map]
  constructor
  · rintro ⟨i, hi, rfl⟩
    obtain ⟨h1, h2⟩ := List.mem_filter.mp hi
    exact ⟨i, List.mem_range.mp h1, of_decide_eq_true h2, rfl⟩
  · rintro ⟨i, h1, h2, rfl⟩
    exact ⟨i, List.mem_filter.mpr ⟨List.mem_range.mpr h1, decide_eq_true h2⟩, rfl⟩
theorem tops_mem {fx sh : List Int} {N : Nat} {z : Int} : z ∈ topsL fx sh N ↔ ∃ i, i < N ∧ fn sh i = -1 ∧ z = fn fx i := by
  unfold topsL
  rw [List.mem_map]
  constructor
  · rintro ⟨i, hi, rfl⟩
    obtain ⟨h1, h2⟩ := List.mem_filter.mp hi
    exact ⟨i, List.mem_range.mp h1, of_decide_eq_true h2, rfl⟩
  · rintro ⟨i, h1, h2, rfl⟩
    exact ⟨i, List.mem_filter.mpr ⟨List.mem_range.mpr h1, decide_eq_true h2⟩, rfl⟩
/-- what is told is what fits -/
theorem holeF_ok {fx sh : List Int} {N : Nat} (hs : Sgn sh N) (ho : ∃ i, i < N ∧ fn sh i = 1) : match holeF fx sh N with
    | none => ∀ x, ¬ Fits fx sh N x
    | some (f, st, none) => 1 ≤ st ∧ (∀ x, Fits fx sh N x ↔ st ∣ x - f ∧ f ≤ x) ∧ (∀ i, i < N → fn sh i ≠ -1)
    | some (f, st, some l) => 0 ≤ st ∧ (st = 0 → f = l) ∧ (st ≠ 0 → f < l ∧ st ∣ l - f) ∧ (∀ x, Fits fx sh N x ↔ st ∣ x - f ∧ f ≤ x ∧ x ≤ l) ∧ (∃ i, i < N ∧ fn sh i = -1) := by
  have on : onesL fx sh N ≠ [] := fun z => by
    obtain ⟨i, h1, h2⟩ := ho
    have := (ones_mem (fx := fx)).mpr ⟨i, h1, h2, rfl⟩
    rw [z] at this
    cases this
  obtain ⟨m1, m2⟩ := maxL_ok on
  have key : ∀ x, Fits fx sh N x ↔ negZ fx sh N = false ∧ RestOk fx sh N x ∧ maxL (onesL fx sh N) ≤ x ∧ ∀ z ∈ topsL fx sh N, x ≤ z := by
    intro x
    constructor
    · intro h
      refine ⟨?_, fun i hi => (h i hi).1, ?_, fun z hz => ?_⟩
      · cases e : negZ fx sh N with
        | false => rfl
        | true =>
          obtain ⟨i, hi, c⟩ := List.any_eq_true.mp e
          rw [Bool.and_eq_true] at c
          have := (h i (List.mem_range.mp hi)).2
          rw [of_decide_eq_true c.1, Int.zero_mul, Int.add_zero] at this
          have := of_decide_eq_true c.2
          omega
      · obtain ⟨i, hi, e1, e2⟩ := ones_mem.mp m1
        have := (h i hi).2
        rw [e1] at this
        omega
      · obtain ⟨i, hi, e1, rfl⟩ := tops_mem.mp hz
        have := (h i hi).2
        rw [e1] at this
        omega
    · rintro ⟨h0, h1, h2, h3⟩ i hi
      refine ⟨h1 i hi, ?_⟩
      rcases hs i hi with e | e | e
      · rw [e, Int.zero_mul, Int.add_zero]
        rcases Int.lt_or_le (fn fx i) 0 with z | z
        · exfalso
          have : negZ fx sh N = true := List.any_eq_true.mpr ⟨i, List.mem_range.mpr hi, by rw [decide_eq_true e, decide_eq_true z]; rfl⟩
          rw [this] at h0
          cases h0
        · exact z
      · have := m2 _ (ones_mem.mpr ⟨i, hi, e, rfl⟩)
        rw [e]
        omega
      · have := h3 _ (tops_mem.mpr ⟨i, hi, e, rfl⟩)
        rw [e]
        omega
  unfold holeF
  cases en : negZ fx sh N with
  | true =>
    rw [if_pos rfl]
    intro x h
    have := ((key x).mp h).1
    rw [en] at this
    cases this
  | false =>
    rw [if_neg fun z => nomatch z]
    have ck := crtF_ok (fx := fx) (sh := sh) hs
    cases ec : crtF fx sh N with
    | none =>
      rw [ec] at ck
      exact fun x h => ck x ((key x).mp h).2.1
    | some p =>
      obtain ⟨rest, step⟩ := p
      rw [ec] at ck
      obtain ⟨s1, ck⟩ := ck
      dsimp only
      by_cases et : topsL fx sh N = []
      · rw [if_pos et]
        refine ⟨by omega, fun x => ?_, fun i hi z => ?_⟩
        · rw [key x, en, et, ck x]
          constructor
          · rintro ⟨_, h1, h2, _⟩
            have := Int.dvd_sub h1 (first_on (least := maxL (onesL fx sh N)) (rest := rest) s1)
            rw [show x - rest - (fstH (maxL (onesL fx sh N)) rest step - rest) = x - fstH (maxL (onesL fx sh N)) rest step by omega] at this
            exact ⟨this, (first_iff s1 h1).mp h2⟩
          · rintro ⟨h1, h2⟩
            have := Int.dvd_add h1 (first_on (least := maxL (onesL fx sh N)) (rest := rest) s1)
            rw [show x - fstH (maxL (onesL fx sh N)) rest step + (fstH (maxL (onesL fx sh N)) rest step - rest) = x - rest by omega] at this
            exact ⟨rfl, this, (first_iff s1 this).mpr h2, fun _ h => nomatch h⟩
        · have := (tops_mem (fx := fx)).mpr ⟨i, hi, z, rfl⟩
          rw [et] at this
          cases this
      · rw [if_neg et]
        obtain ⟨t1, t2⟩ := minL_ok et
        have f0 := first_on (least := maxL (onesL fx sh N)) (rest := rest) s1
        have l0 := last_on (most := minL (topsL fx sh N)) (rest := rest) s1
        have all : ∀ x, Fits fx sh N x ↔ (step : Int) ∣ x - rest ∧ fstH (maxL (onesL fx sh N)) rest step ≤ x ∧ x ≤ lstH (minL (topsL fx sh N)) rest step := fun x => by
          rw [key x, en, ck x]
          constructor
          · rintro ⟨_, h1, h2, h3⟩
            exact ⟨h1, (first_iff s1 h1).mp h2, (last_iff s1 h1).mp (h3 _ t1)⟩
          · rintro ⟨h1, h2, h3⟩
            have := (last_iff s1 h1).mpr h3
            exact ⟨rfl, h1, (first_iff s1 h1).mpr h2, fun z hz => by have := t2 z hz; omega⟩
        have hm : ∃ i, i < N ∧ fn sh i = -1 := by
          obtain ⟨i, h1, h2, _⟩ := tops_mem.mp t1
          exact ⟨i, h1, h2⟩
        generalize fstH (maxL (onesL fx sh N)) rest step = f at *
        generalize lstH (minL (topsL fx sh N)) rest step = l at *
        by_cases c : l < f
        · rw [if_pos c]
          intro x h
          have := (all x).mp h
          omega
        · rw [if_neg c]
          have fl := Int.dvd_sub l0 f0
          rw [show l - rest - (f - rest) = l - f by omega] at fl
          by_cases e : f = l
          · rw [if_pos e]
            refine ⟨by decide, fun _ => e, fun z => absurd rfl z, fun x => ?_, hm⟩
            rw [all x]
            constructor
            · rintro ⟨h1, h2, h3⟩
              have : x = f := by omega
              exact ⟨⟨0, by omega⟩, h2, h3⟩
            · rintro ⟨h1, h2, h3⟩
              have : x = f := by omega
              exact ⟨by rw [this]; exact f0, h2, h3⟩
          · rw [if_neg e]
            refine ⟨by omega, fun z => by omega, fun _ => ⟨by omega, fl⟩, fun x => ?_, hm⟩
            rw [all x]
            constructor
            · rintro ⟨h1, h2, h3⟩
              have := Int.dvd_sub h1 f0
              rw [show x - rest - (f - rest) = x - f by omega] at this
              exact ⟨this, h2, h3⟩
            · rintro ⟨h1, h2, h3⟩
              have := Int.dvd_add h1 f0
              rw [show x - f + (f - rest) = x - rest by omega] at this
              exact ⟨this, h2, h3⟩
/-! ### new numbers of a row with a hole -/
theorem sub_lin {r f g : List Int} {x : Int} (h : ∀ i, r.getD i 0 = f.getD i 0 + g.getD i 0 * x) : ∀ k i, sub r k i = sub f k i + sub g k i * x
  | 0, i => h i
  | k + 1, i => by
    have h1 := sub_lin h k i
    have h2 := sub_lin h k k
    show sub r k i - (if k < i ∧ (i + 1) % (k + 1) = 0 then sub r k k else 0) = sub f k i - (if k < i ∧ (i + 1) % (k + 1) = 0 then sub f k k else 0) + (sub g k i - (if k < i ∧ (i + 1) % (k + 1) = 0 then sub g k k else 0)) * x
    rw [h1, h2]
    split
    · rw [Int.sub_mul]; omega
    · rw [Int.sub_zero, Int.sub_zero, Int.sub_zero]
def ind (N h : Nat) : List Int := (List.replicate N (0 : Int)).set h 1
theorem ind_fn {N h : Nat} (hh : h < N) (i : Nat) : (ind N h).getD i 0 = if i = h then 1 else 0 := by
  unfold ind
  rw [List.getD_eq_getElem?_getD]
  by_cases e : i = h
  · subst e
    rw [List.getElem?_set_self (by rw [List.length_replicate]; exact hh), if_pos rfl]
    rfl
  · rw [List.getElem?_set_ne (Ne.symm e), if_neg e, List.getElem?_replicate]
    split <;> rfl
theorem set_fn {r : List Int} {h : Nat} (hh : h < r.length) (x : Int) (i : Nat) : (r.set h x).getD i 0 = if i = h then x else r.getD i 0 := by
  rw [List.getD_eq_getElem?_getD]
  by_cases e : i = h
  · subst e
    rw [List.getElem?_set_self hh, if_pos rfl]
    rfl
  · rw [List.getElem?_set_ne (Ne.symm e), if_neg e, List.getD_eq_getElem?_getD]
theorem new_set {r : List Int} {h : Nat} (hh : h < r.length) (x : Int) (i : Nat) : fn (newL (r.set h x)) i = fn (newL (r.set h 0)) i + fn (newL (ind r.length h)) i * x := by
  have l1 : (ind r.length h).length = r.length := by unfold ind; rw [List.length_set, List.length_replicate]
  by_cases z : i < r.length
  · unfold fn newL
    rw [tab_getD (by rw [List.length_set]; exact z), tab_getD (by rw [List.length_set]; exact z), tab_getD (by rw [l1]; exact z), List.length_set, List.length_set, l1]
    refine sub_lin (fun j => ?_) _ _
    rw [set_fn hh, set_fn hh, ind_fn hh]
    by_cases e : j = h
    · rw [if_pos e, if_pos e, if_pos e, Int.one_mul, Int.zero_add]
    · rw [if_neg e, if_neg e, if_neg e, Int.zero_mul, Int.add_zero]
  · rw [show fn (newL (r.set h x)) i = 0 from fn_out (by rw [newL_length, List.length_set]; omega), show fn (newL (r.set h 0)) i = 0 from fn_out (by rw [newL_length, List.length_set]; omega), show fn (newL (ind r.length h)) i = 0 from fn_out (by rw [newL_length, l1]; omega)]
    omega
def fxL (r : List Int) (h : Nat) : List Int := newL (r.set h 0)
def shL (N h : Nat) : List Int := newL (ind N h)
def holeL (r : List Int) (h : Nat) : Option (Int × Int × Option Int) := holeF (fxL r h) (shL r.length h) r.length
theorem fits_iff {r : List Int} {h : Nat} (hh : h < r.length) (x : Int) : Fits (fxL r h) (shL r.length h) r.length x ↔ bar (r.set h x) = none := by
  rw [bar_free]
  unfold Free Fits
  rw [List.length_set]
  have e : ∀ i, (newL (r.set h x)).getD i 0 = fn (fxL r h) i + fn (shL r.length h) i * x := fun i => new_set hh x i
  constructor
  · intro H i hi
    obtain ⟨h1, h2⟩ := H i hi
    refine ⟨(fn (fxL r h) i + fn (shL r.length h) i * x) / ((i + 1 : Nat) : Int), Int.ediv_nonneg h2 (by omega), ?_⟩
    rw [e i, Int.mul_ediv_cancel' (Int.dvd_of_emod_eq_zero h1)]
  · intro H i hi
    obtain ⟨q, q0, hq⟩ := H i hi
    rw [e i] at hq
    rw [hq]
    exact ⟨Int.mul_emod_right _ _, Int.mul_nonneg (by omega) q0⟩

/-! ### how much a hole tells of each new number -/
def muT : List Int := [1, -1, -1, 0, -1, 1, -1, 0, 0, 1, -1, 0, -1, 1, 1, 0, -1, 0, -1, 0, 1, 1, -1, 0, 0, 1, 0, 0, -1, -1, -1, 0, 1, 1, 1, 0, -1, 1, 1, 0, -1, -1, -1, 0, 0, 1, -1, 0, 0, 0, 1, 0, -1, 0, 1, 0, 1, 1, -1, 0, -1, 1, 0, 0, 1, -1, -1, 0, 1, -1, -1, 0, -1, 1, 0, 0, 1, -1, -1, 0, 0, 1, -1, 0, 1, 1, 1, 0, -1, 0, 1, 0, 1, 1, 1, 0, -1, 0, 0, 0, -1, -1, -1, 0, -1, 1, -1, 0, -1, -1, 1, 0, -1, -1, 1, 0, 0, 1, 1, 0]
def muOk (n : Nat) : Bool := decide (((List.range n).foldl (fun s d => s + (if n % (d + 1) = 0 then muT.getD d 0 else 0)) 0) = if n = 1 then 1 else 0)
theorem mu_ok : (List.range 120).all (fun n => muOk (n + 1)) = true := by decide +kernel
theorem mu_sgn : (List.range 120).all (fun i => decide (muT.getD i 0 = 0) || decide (muT.getD i 0 = 1) || decide (muT.getD i 0 = -1)) = true := by decide +kernel
def gm (h i : Nat) : Int := if (i + 1) % (h + 1) = 0 then muT.getD ((i + 1) / (h + 1) - 1) 0 else 0
def dsum (n : Nat) : Nat → Int
  | 0 => 0
  | k + 1 => dsum n k + (if n % (k + 1) = 0 then muT.getD k 0 else 0)
theorem dsum_fold (n : Nat) : ∀ k, (List.range k).foldl (fun s d => s + (if n % (d + 1) = 0 then muT.getD d 0 else 0)) 0 = dsum n k
  | 0 => rfl
  | k + 1 => by rw [List.range_succ, List.foldl_append, dsum_fold n k]; rfl
theorem mu_sum {n : Nat} (h0 : 1 ≤ n) (h1 : n ≤ 120) : dsum n n = if n = 1 then 1 else 0 := by
  have := List.all_eq_true.mp mu_ok (n - 1) (List.mem_range.mpr (by omega))
  rw [show n - 1 + 1 = n by omega] at this
  rw [← dsum_fold]
  exact of_decide_eq_true this
/-- sums of gm over divisors -/
def gsum (h i : Nat) : Nat → Int
  | 0 => 0
  | k + 1 => gsum h i k + (if (i + 1) % (k + 1) = 0 then gm h k else 0)
theorem gsum_no {h i : Nat} (z : (i + 1) % (h + 1) ≠ 0) : ∀ k, gsum h i k = 0
  | 0 => rfl
  | k + 1 => by
    rw [gsum, gsum_no z k]
    by_cases e : (i + 1) % (k + 1) = 0
    · rw [if_pos e]
      unfold gm
      rw [if_neg fun c => z (Nat.mod_eq_zero_of_dvd (Nat.dvd_trans (Nat.dvd_of_mod_eq_zero c) (Nat.dvd_of_mod_eq_zero e)))]
      rfl
    · rw [if_neg e]
      rfl
theorem gsum_block {h i k : Nat} : ∀ t, t ≤ h → gsum h i ((h + 1) * k + t) = gsum h i ((h + 1) * k)
  | 0, _ => rfl
  | t + 1, ht => by
    show gsum h i ((h + 1) * k + t) + (if (i + 1) % ((h + 1) * k + t + 1) = 0 then gm h ((h + 1) * k + t) else 0) = _
    rw [gsum_block t (by omega), show gm h ((h + 1) * k + t) = 0 from if_neg (by rw [Nat.add_assoc, Nat.mul_add_mod, Nat.mod_eq_of_lt (by omega)]; omega)]
    split <;> omega
theorem gsum_yes {h m i : Nat} (hi : i + 1 = (h + 1) * m) : ∀ k, gsum h i ((h + 1) * k) = dsum m k
  | 0 => by rw [Nat.mul_zero]; rfl
  | k + 1 => by
    have e : (h + 1) * (k + 1) = (h + 1) * k + h + 1 := by rw [Nat.mul_add]; omega
    rw [e]
    show gsum h i ((h + 1) * k + h) + (if (i + 1) % ((h + 1) * k + h + 1) = 0 then gm h ((h + 1) * k + h) else 0) = dsum m k + (if m % (k + 1) = 0 then muT.getD k 0 else 0)
    rw [gsum_block h (Nat.le_refl _), gsum_yes hi k, ← e, hi, Nat.mul_mod_mul_left]
    have g : gm h ((h + 1) * k + h) = muT.getD k 0 := by
      unfold gm
      rw [← e, if_pos (Nat.mul_mod_right _ _), Nat.mul_div_cancel_left _ (Nat.succ_pos h)]
      rfl
    rw [g]
    by_cases z : m % (k + 1) = 0
    · rw [if_pos z, if_pos (by rw [z, Nat.mul_zero])]
    · rw [if_neg z, if_neg fun c => by
        rcases Nat.mul_eq_zero.mp c with c | c
        · omega
        · exact z c]
theorem gsum_all {h i : Nat} (hi : i < 120) : gsum h i (i + 1) = if i = h then 1 else 0 := by
  by_cases z : (i + 1) % (h + 1) = 0
  · obtain ⟨m, hm⟩ := Nat.dvd_of_mod_eq_zero z
    have m0 : 1 ≤ m := by
      rcases Nat.eq_zero_or_pos m with c | c
      · rw [c, Nat.mul_zero] at hm; omega
      · exact c
    have ml : m ≤ i + 1 := by rw [hm]; exact Nat.le_mul_of_pos_left m (Nat.succ_pos h)
    have e := gsum_yes hm m
    rw [← hm] at e
    rw [e, mu_sum m0 (by omega)]
    by_cases c : m = 1
    · rw [if_pos c, if_pos (by rw [c, Nat.mul_one] at hm; omega)]
    · rw [if_neg c, if_neg fun k => by
        subst k
        have : (i + 1) * m = (i + 1) * 1 := by rw [← hm, Nat.mul_one]
        exact c (Nat.eq_of_mul_eq_mul_left (Nat.succ_pos i) this)]
  · rw [gsum_no z, if_neg fun k => z (by rw [k, Nat.mod_self])]
theorem sub_gs {N h : Nat} (hh : h < N) (i : Nat) : ∀ k, k ≤ i → (∀ j, j < k → sub (ind N h) j j = gm h j) → sub (ind N h) k i = (if i = h then 1 else 0) - gsum h i k
  | 0, _, _ => by
    show (ind N h).getD i 0 = _ - 0
    rw [ind_fn hh, Int.sub_zero]
  | k + 1, hk, H => by
    have ih := sub_gs hh i k (by omega) fun j hj => H j (by omega)
    show sub (ind N h) k i - (if k < i ∧ (i + 1) % (k + 1) = 0 then sub (ind N h) k k else 0) = _ - (gsum h i k + (if (i + 1) % (k + 1) = 0 then gm h k else 0))
    rw [ih]
    by_cases z : (i + 1) % (k + 1) = 0
    · rw [if_pos (show k < i ∧ (i + 1) % (k + 1) = 0 from ⟨by omega, z⟩), if_pos z, H k (Nat.lt_succ_self k)]
      omega
    · rw [if_neg (show ¬ (k < i ∧ (i + 1) % (k + 1) = 0) from fun q => z q.2), if_neg z]
      omega
theorem sub_ind {N h : Nat} (hh : h < N) (hN : N ≤ 120) : ∀ i, i < N → sub (ind N h) i i = gm h i := by
  intro i
  induction i using Nat.strongRecOn with
  | _ i ih =>
    intro hi
    have e1 := sub_gs hh i i (Nat.le_refl _) fun j hj => ih j hj (by omega)
    have e2 := gsum_all (h := h) (i := i) (by omega)
    have e3 : gsum h i (i + 1) = gsum h i i + gm h i := by
      show gsum h i i + (if (i + 1) % (i + 1) = 0 then gm h i else 0) = _
      rw [if_pos (Nat.mod_self _)]
    omega
theorem shL_length (N h : Nat) : (shL N h).length = N := by
  unfold shL ind
  rw [newL_length, List.length_set, List.length_replicate]
theorem shL_fn {N h i : Nat} (hh : h < N) (hN : N ≤ 120) (hi : i < N) : fn (shL N h) i = gm h i := by
  have l1 : (ind N h).length = N := by unfold ind; rw [List.length_set, List.length_replicate]
  unfold fn shL newL
  rw [l1, tab_getD hi, sub_late _ (Nat.le_of_lt hi), sub_ind hh hN i hi]
theorem gm_sgn {h i : Nat} (hi : i < 120) : gm h i = 0 ∨ gm h i = 1 ∨ gm h i = -1 := by
  unfold gm
  split
  · have := List.all_eq_true.mp mu_sgn ((i + 1) / (h + 1) - 1) (List.mem_range.mpr (by have := Nat.div_le_self (i + 1) (h + 1); omega))
    rw [Bool.or_eq_true, Bool.or_eq_true] at this
    rcases this with (c | c) | c
    · exact .inl (of_decide_eq_true c)
    · exact .inr (.inl (of_decide_eq_true c))
    · exact .inr (.inr (of_decide_eq_true c))
  · exact .inl rfl
theorem shL_sgn {N h : Nat} (hh : h < N) (hN : N ≤ 120) : Sgn (shL N h) N := fun i hi => by
  rw [shL_fn hh hN hi]
  exact gm_sgn (by omega)
theorem shL_one {N h : Nat} (hh : h < N) (hN : N ≤ 120) : fn (shL N h) h = 1 := by
  rw [shL_fn hh hN hh]
  unfold gm
  rw [if_pos (Nat.mod_self _), Nat.div_self (Nat.succ_pos h)]
  rfl

/-! ### items with a hole; None or three numbers -/
def itV (r : List Int) (h : Nat) : List V := (vi r).set h .non
theorem itV_eq {r : List Int} {h : Nat} (hh : h < r.length) : itV r h = vi (r.take h) ++ [.non] ++ vi (r.drop (h + 1)) := by
  unfold itV vi
  rw [List.set_eq_take_append_cons_drop, if_pos (by rw [List.length_map]; exact hh), List.map_take, List.map_drop, List.append_assoc]
  rfl
theorem itV_length (r : List Int) (h : Nat) : (itV r h).length = r.length := by unfold itV; rw [List.length_set, List.length_map]
theorem itV_at {r : List Int} {h i : Nat} (hi : i < r.length) : (itV r h)[i]? = some (if i = h then .non else .int (fn r i)) := by
  unfold itV
  by_cases e : i = h
  · subst e
    rw [List.getElem?_set_self (by rw [List.length_map]; exact hi), if_pos rfl]
  · rw [List.getElem?_set_ne (Ne.symm e), if_neg e]
    exact getD_at hi
def notN : V → Bool
  | .non => false
  | _ => true
theorem notN_eq (v : V) : notN v = !decide (v = .non) := by
  cases v <;> rfl
theorem filt_vi (xs : List Int) : (vi xs).filter notN = vi xs := List.filter_eq_self.mpr fun v hv => by
  obtain ⟨m, _, rfl⟩ := List.mem_map.mp hv
  rfl
theorem filt_it {r : List Int} {h : Nat} (hh : h < r.length) : (itV r h).filter notN = vi (r.take h ++ r.drop (h + 1)) := by
  rw [itV_eq hh, List.filter_append, List.filter_append, filt_vi, filt_vi, show [V.non].filter notN = [] from rfl, List.append_nil, vi_app]
def CrtV (o : Option (Int × Nat)) (v : V) (H : Hp) : Prop := match o with
  | none => v = .non
  | some (rest, step) => ∃ p, v = .ref p ∧ H p = some (.tup [.int rest, .int (step : Int)])
def HolV (o : Option (Int × Int × Option Int)) (v : V) (H : Hp) : Prop := match o with
  | none => v = .non
  | some (f, st, l) => ∃ p, v = .ref p ∧ H p = some (.tup [.int f, .int st, optI l])
theorem HolV.ex {o : Option (Int × Int × Option Int)} {v : V} {H H' : Hp} (h : HolV o v H) (e : Ex H H') : HolV o v H' := by
  match o, h with
  | none, h => exact h
  | some (f, st, l), ⟨p, e1, g⟩ => exact ⟨p, e1, e _ _ g⟩
theorem crt_step {fx sh : List Int} : ∀ {i : Nat}, i ≤ 120 → ∀ {rest : Int} {step : Nat}, crtF fx sh i = some (rest, step) → 1 ≤ step ∧ step ≤ 2 ^ (7 * i)
  | 0, _, rest, step, h => by
    cases h
    exact ⟨by decide, by decide⟩
  | i + 1, hi, rest, step, h => by
    rw [crtF] at h
    cases e : crtF fx sh i with
    | none => rw [e] at h; cases h
    | some p =>
      obtain ⟨r0, s0⟩ := p
      obtain ⟨a1, a2⟩ := crt_step (i := i) (by omega) e
      have up : s0 ≤ 2 ^ (7 * (i + 1)) := Nat.le_trans a2 (Nat.pow_le_pow_right (by decide) (by omega))
      rw [e] at h
      dsimp only at h
      split at h
      · split at h
        · cases h
        · cases h
          exact ⟨a1, up⟩
      · split at h
        · cases h
        · cases h
          refine ⟨Nat.lcm_pos a1 (Nat.succ_pos i), ?_⟩
          have h1 : Nat.lcm s0 (i + 1) ≤ s0 * (i + 1) := Nat.le_of_dvd (Nat.mul_pos a1 (Nat.succ_pos i)) (Nat.lcm_dvd_mul _ _)
          have h2 : s0 * (i + 1) ≤ 2 ^ (7 * i) * 2 ^ 7 := Nat.mul_le_mul a2 (by omega)
          rw [← Nat.pow_add] at h2
          exact Nat.le_trans h1 h2
theorem crt_lt {fx sh : List Int} {i : Nat} (hi : i ≤ 120) {rest : Int} {step : Nat} (h : crtF fx sh i = some (rest, step)) : 1 ≤ step ∧ step < 2 ^ 6000 := by
  obtain ⟨a, b⟩ := crt_step hi h
  exact ⟨a, Nat.lt_of_le_of_lt b (Nat.pow_lt_pow_right (by decide) (by omega))⟩
theorem any_fm (p q : Nat → Bool) (N : Nat) : (((List.range N).filter p).map q).any id = (List.range N).any fun i => p i && q i := by
  rw [List.any_map, List.any_filter]
  rfl

/-! ### rules -/
structure Tm where
  w : Nat
  c : Int
  z : Int
def kn (w : Nat) : Str := if w = 0 then "power" else if w = 1 then "ring" else "places"
def tv (t : Tm) : List V := [.str (kn t.w), .int t.c, .int t.z]
structure TmOk (t : Tm) : Prop where
  c0 : -1000000 ≤ t.c
  c1 : t.c ≤ 1000000
  w2 : t.w < 3
  p : t.w = 0 → -40 ≤ t.z ∧ t.z ≤ 40
  r : t.w = 1 → 1 ≤ t.z ∧ t.z ≤ 300
  s : t.w = 2 → 1 ≤ t.z ∧ t.z ≤ 6
def tat (t : Tm) (n : Nat) : Int := if t.w = 0 then t.c * t.z ^ n else if t.w = 1 then (if (n : Int) % t.z = 0 then t.c * t.z else 0) else t.c * ((n ^ t.z.toNat : Nat) : Int)
def rat (ts : List Tm) (n : Nat) : Int := (ts.map fun t => tat t n).sum
/-- a rule stands at r -/
def Rul (H : Hp) (r : Addr) (ts : List Tm) : Prop := ∃ as : List Addr, H r = some (.lst (as.map .ref)) ∧ as.length = ts.length ∧ ∀ (i : Nat) (a : Addr) (t : Tm), as[i]? = some a → ts[i]? = some t → H a = some (.tup (tv t))
theorem Rul.ex {H H' : Hp} {r : Addr} {ts : List Tm} (h : Rul H r ts) (e : Ex H H') : Rul H' r ts := by
  obtain ⟨as, g, l, f⟩ := h
  exact ⟨as, e _ _ g, l, fun i a t x y => e _ _ (f i a t x y)⟩
theorem rat_snoc (ts : List Tm) (t : Tm) (n : Nat) : rat (ts ++ [t]) n = rat ts n + tat t n := by
  unfold rat
  rw [List.map_append, List.sum_append]
  show _ + (tat t n + 0) = _
  omega
def ruv (ts : List Tm) (n : Nat) : List Int := tabL n fun i => rat ts (i + 1)
def tuv (t : Tm) (n : Nat) : List Int := tabL n fun i => tat t (i + 1)
theorem rv_eqS {H : Hp} {x y : Str} : RV rEq (.str x) (.str y) H (.bl (decide (x = y))) := by
  have h : RV rEq (V.str x) (V.str y) H (.bl (decide (V.str x = V.str y))) := rv_eq rfl
  have e : decide (V.str x = V.str y) = decide (x = y) := decide_eq_decide.mpr ⟨fun z => V.str.inj z, fun z => by rw [z]⟩
  rwa [e] at h

/-! ### a number behind a turn row -/
theorem set_last (l : List Int) (a x : Int) : (l ++ [a]).set l.length x = l ++ [x] := by
  rw [List.set_append_right _ _ (Nat.le_refl _), Nat.sub_self]
  rfl
theorem new_last {cs : List Int} (hl : cs.length < 120) (x : Int) {i : Nat} (hi : i ≤ cs.length) : fn (newL (rowL cs ++ [x])) i = if i = cs.length then x - low cs else ((i + 1 : Nat) : Int) * cs.getD i 0 := by
  have rl := rowL_length cs
  have ll : (rowL cs ++ [0]).length = cs.length + 1 := by rw [List.length_append, rl]; rfl
  have e : ∀ y, fn (newL (rowL cs ++ [y])) i = fn (newL (rowL cs ++ [0])) i + fn (newL (ind (cs.length + 1) cs.length)) i * y := fun y => by
    have := new_set (r := rowL cs ++ [0]) (h := cs.length) (by omega) y i
    rw [ll] at this
    have s : ∀ z, (rowL cs ++ [0]).set cs.length z = rowL cs ++ [z] := fun z => by rw [← rl]; exact set_last _ _ _
    rwa [s, s] at this
  have g : fn (newL (ind (cs.length + 1) cs.length)) i = if i = cs.length then 1 else 0 := by
    have h1 := shL_fn (N := cs.length + 1) (h := cs.length) (i := i) (by omega) (by omega) (by omega)
    have h2 : fn (shL (cs.length + 1) cs.length) i = fn (newL (ind (cs.length + 1) cs.length)) i := rfl
    rw [← h2]
    by_cases c : i = cs.length
    · rw [if_pos c, c]
      exact shL_one (by omega) (by omega)
    · rw [if_neg c, h1]
      unfold gm
      rw [if_neg (by rw [Nat.mod_eq_of_lt (by omega)]; omega)]
  have z : fn (newL (rowL cs ++ [low cs])) i = ((i + 1 : Nat) : Int) * (cs ++ [0]).getD i 0 := by
    have h1 := rowL_snoc cs 0
    rw [Int.mul_zero, Int.add_zero] at h1
    rw [← h1, new_row]
    unfold fn
    exact tab_getD (by rw [List.length_append]; show i < cs.length + 1; omega)
  have e0 := e (low cs)
  rw [e x, g]
  rw [g, z] at e0
  by_cases c : i = cs.length
  · rw [if_pos c] at e0 ⊢
    rw [if_pos c]
    have : (cs ++ [(0 : Int)]).getD i 0 = 0 := by rw [c]; exact push_getD rfl 0
    rw [this, Int.mul_zero] at e0
    omega
  · rw [if_neg c] at e0 ⊢
    rw [if_neg c]
    have : (cs ++ [(0 : Int)]).getD i 0 = cs.getD i 0 := by rw [List.getD_eq_getElem?_getD, List.getD_eq_getElem?_getD, List.getElem?_append_left (by omega)]
    rw [this] at e0
    omega
def lastK (cs : List Int) (x : Int) : Str := if (x - low cs) % stp cs = 0 then "below" else "rest"
theorem bar_last {cs : List Int} (nn : ∀ c ∈ cs, 0 ≤ c) (hl : cs.length < 120) (x : Int) : bar (rowL cs ++ [x]) = if mc cs x then none else some (cs.length + 1, lastK cs x) := by
  have ll : (rowL cs ++ [x]).length = cs.length + 1 := by rw [List.length_append, rowL_length]; rfl
  have b0 : barF (rowL cs ++ [x]) cs.length = none := barF_none.mpr fun i hi => barAt_none.mpr ⟨cs.getD i 0, by
    rw [List.getD_eq_getElem?_getD, List.getElem?_eq_getElem hi]
    exact nn _ (List.getElem_mem _), by
    have := new_last hl x (i := i) (by omega)
    rw [if_neg (by omega)] at this
    exact this⟩
  have gl : (newL (rowL cs ++ [x])).getD cs.length 0 = x - low cs := by
    have := new_last hl x (Nat.le_refl _)
    rw [if_pos rfl] at this
    exact this
  have st : stp cs = ((cs.length + 1 : Nat) : Int) := by unfold stp; omega
  have ba : barAt (rowL cs ++ [x]) cs.length = if mc cs x then none else some (lastK cs x) := by
    unfold barAt mc lastK
    rw [gl, ← st]
    by_cases c : (x - low cs) % stp cs = 0
    · rw [if_neg (not_not_intro c), decide_eq_true c, Bool.and_true]
      by_cases d : x - low cs < 0
      · rw [if_pos d, decide_eq_false (by omega), if_neg Bool.false_ne_true, if_pos c]
      · rw [if_neg d, decide_eq_true (by omega), if_pos rfl]
    · rw [if_pos c, decide_eq_false c, Bool.and_false, if_neg Bool.false_ne_true, if_neg c]
  unfold bar
  rw [ll, barF_next b0, ba]
  cases mc cs x with
  | true => rfl
  | false => rfl
theorem mc_iff {cs : List Int} {x : Int} : mc cs x = true ↔ low cs ≤ x ∧ stp cs ∣ x - low cs := by
  unfold mc
  rw [Bool.and_eq_true, decide_eq_true_iff, decide_eq_true_iff]
  exact ⟨fun h => ⟨h.1, Int.dvd_of_emod_eq_zero h.2⟩, fun h => ⟨h.1, Int.emod_eq_zero_of_dvd h.2⟩⟩
theorem hole_last {cs : List Int} (nn : ∀ c ∈ cs, 0 ≤ c) (hl : cs.length < 120) : holeL (rowL cs ++ [0]) cs.length = some (low cs, stp cs, none) := by
  have rl := rowL_length cs
  have ll : (rowL cs ++ [0]).length = cs.length + 1 := by rw [List.length_append, rl]; rfl
  have sp := stp_pos cs
  have ft : ∀ x, Fits (fxL (rowL cs ++ [0]) cs.length) (shL (rowL cs ++ [0]).length cs.length) (rowL cs ++ [0]).length x ↔ low cs ≤ x ∧ stp cs ∣ x - low cs := fun x => by
    have s : (rowL cs ++ [0]).set cs.length x = rowL cs ++ [x] := by rw [← rl]; exact set_last _ _ _
    rw [fits_iff (by omega), s, bar_last nn hl, ← mc_iff]
    cases mc cs x with
    | true => exact ⟨fun _ => rfl, fun _ => rfl⟩
    | false => exact ⟨(fun h => nomatch h), (fun h => nomatch h)⟩
  have ok := holeF_ok (fx := fxL (rowL cs ++ [0]) cs.length) (shL_sgn (N := (rowL cs ++ [0]).length) (h := cs.length) (by omega) (by omega)) ⟨cs.length, by omega, shL_one (by omega) (by omega)⟩
  have f0 : low cs ≤ low cs ∧ stp cs ∣ low cs - low cs := ⟨Int.le_refl _, by rw [Int.sub_self]; exact Int.dvd_zero _⟩
  unfold holeL
  revert ok
  cases hf : holeF (fxL (rowL cs ++ [0]) cs.length) (shL (rowL cs ++ [0]).length cs.length) (rowL cs ++ [0]).length with
  | none => exact fun ok => absurd ((ft _).mpr f0) (ok _)
  | some o =>
    obtain ⟨f, st, last⟩ := o
    cases last with
    | none =>
      rintro ⟨s1, fs, _⟩
      have q : ∀ x, (st ∣ x - f ∧ f ≤ x) ↔ low cs ≤ x ∧ stp cs ∣ x - low cs := fun x => (fs x).symm.trans (ft x)
      have a1 := (q f).mp ⟨by rw [Int.sub_self]; exact Int.dvd_zero _, Int.le_refl _⟩
      have a2 := (q (low cs)).mpr f0
      have ef : f = low cs := by omega
      subst ef
      have b1 := (q (low cs + stp cs)).mpr ⟨by omega, by rw [show low cs + stp cs - low cs = stp cs by omega]; exact Int.dvd_refl _⟩
      have b2 := (q (low cs + st)).mp ⟨by rw [show low cs + st - low cs = st by omega]; exact Int.dvd_refl _, by omega⟩
      rw [show low cs + stp cs - low cs = stp cs by omega] at b1
      rw [show low cs + st - low cs = st by omega] at b2
      have c1 := Int.le_of_dvd (by omega) b1.1
      have c2 := Int.le_of_dvd (by omega) b2.2
      rw [show st = stp cs by omega]
    | some l =>
      rintro ⟨s0, s1, s2, fs, _⟩
      have big : low cs ≤ low cs + stp cs * ((l - low cs).natAbs + 1 : Nat) := by
        have := Int.mul_nonneg (Int.le_of_lt sp) (Int.natCast_nonneg ((l - low cs).natAbs + 1))
        omega
      have h1 := (fs _).mp ((ft (low cs + stp cs * ((l - low cs).natAbs + 1 : Nat))).mpr ⟨big, by rw [show low cs + stp cs * ((l - low cs).natAbs + 1 : Nat) - low cs = stp cs * ((l - low cs).natAbs + 1 : Nat) by omega]; exact Int.dvd_mul_right _ _⟩)
      have h2 : (1 : Int) * ((l - low cs).natAbs + 1 : Nat) ≤ stp cs * ((l - low cs).natAbs + 1 : Nat) := Int.mul_le_mul_of_nonneg_right (by omega) (by omega)
      omega
/-! ### the shuffle of a live row's rings -/
theorem reps_sum (c : List Int) (hc : ∀ k, 0 ≤ c.getD k 0) (i : Nat) : ∀ m, ((up (((List.range m).map fun k => List.replicate (c.getD k 0).toNat (k + 1)).flatten)).filter fun l => decide (((i + 1 : Nat) : Int) % l = 0)).sum = part c i m
  | 0 => rfl
  | m + 1 => by
    have ih := reps_sum c hc i m
    rw [List.range_succ, List.map_append, List.flatten_append]
    unfold up at ih ⊢
    rw [List.map_append, List.filter_append, List.sum_append, ih]
    show _ + ((List.map (fun k : Nat => (k : Int)) (List.replicate (c.getD m 0).toNat (m + 1) ++ [])).filter _).sum = part c i m + (if (i + 1) % (m + 1) = 0 then ((m + 1 : Nat) : Int) * c.getD m 0 else 0)
    congr 1
    rw [List.append_nil, List.map_replicate]
    have e : (((i + 1 : Nat) : Int) % ((m + 1 : Nat) : Int) = 0) ↔ (i + 1) % (m + 1) = 0 := by
      rw [← Int.natCast_emod]
      omega
    have rs : ∀ n : Nat, (List.replicate n ((m + 1 : Nat) : Int)).sum = ((m + 1 : Nat) : Int) * (n : Int) := fun n => by
      induction n with
      | zero => rw [List.replicate_zero]; exact (Int.mul_zero _).symm
      | succ n ih =>
        have e1 : ((n + 1 : Nat) : Int) = (n : Int) + 1 := rfl
        rw [List.replicate_succ, List.sum_cons, ih, e1, Int.mul_add, Int.mul_one]
        omega
    by_cases d : (i + 1) % (m + 1) = 0
    · rw [if_pos d, List.filter_eq_self.mpr (fun x hx => by rw [List.eq_of_mem_replicate hx]; exact decide_eq_true (e.mpr d)), rs, Int.toNat_of_nonneg (hc m)]
    · rw [if_neg d, List.filter_eq_nil_iff.mpr (fun x hx => by rw [List.eq_of_mem_replicate hx]; simpa using fun z => d (e.mp z))]
      rfl
theorem back_live {cs : List Int} (nn : ∀ c ∈ cs, 0 ≤ c) (t1 : 1 ≤ ths cs cs.length) (t2 : ths cs cs.length ≤ 300) : up (backL (dueL cs cs.length) cs.length) = rowL cs := by
  have hs := due_shf nn t1 t2
  obtain ⟨S, h1, h2⟩ := side_due cs cs.length
  have rs : Rings (dueL cs cs.length) S (dueL cs cs.length).length := ⟨h1.1, by rw [h1.2]; exact List.nodup_range, fun i hi => by rw [h1.2]; exact List.mem_range.mpr hi⟩
  have hc : ∀ k, 0 ≤ cs.getD k 0 := fun k => by
    rw [List.getD_eq_getElem?_getD]
    cases g : cs[k]? with
    | none => exact Int.le_refl _
    | some z => exact nn z (List.mem_of_getElem? g)
  unfold rowL tabL up backL
  rw [List.map_map]
  refine List.map_congr_left fun i hi => ?_
  have hi := List.mem_range.mp hi
  show ((cnt (dueL cs cs.length) (i + 1) : Nat) : Int) = _
  rw [any_cnt hs rs, h2, ← part_stay cs i (show i + 1 ≤ cs.length by omega)]
  exact reps_sum cs hc i cs.length
theorem thg_ths (cs : List Int) : thg cs = ths cs cs.length := ths_sum cs cs.length
/-! ### powers are turn rows -/
def nkOk (b : Nat) (ds : List Int) : Bool := decide (ds.length = 45) && ds.all (fun c => decide (0 ≤ c)) && (List.range 45).all fun i => decide (part ds i (i + 1) = ((b ^ (i + 1) : Nat) : Int))
def nk1 : List Int := [1, 0, 0, 0, 0, 0, 0, 0, 0, 0, 0, 0, 0, 0, 0, 0, 0, 0, 0, 0, 0, 0, 0, 0, 0, 0, 0, 0, 0, 0, 0, 0, 0, 0, 0, 0, 0, 0, 0, 0, 0, 0, 0, 0, 0]
def nk2 : List Int := [2, 1, 2, 3, 6, 9, 18, 30, 56, 99, 186, 335, 630, 1161, 2182, 4080, 7710, 14532, 27594, 52377, 99858, 190557, 364722, 698870, 1342176, 2580795, 4971008, 9586395, 18512790, 35790267, 69273666, 134215680, 260300986, 505286415, 981706806, 1908866960, 3714566310, 7233615333, 14096302710, 27487764474, 53634713550, 104715342801, 204560302842, 399822314775, 781874934568]
def nk3 : List Int := [3, 3, 8, 18, 48, 116, 312, 810, 2184, 5880, 16104, 44220, 122640, 341484, 956576, 2690010, 7596480, 21522228, 61171656, 174336264, 498111952, 1426403748, 4093181688, 11767874940, 33891544368, 97764009000, 282429535752, 817028131140, 2366564736720, 6863037256208, 19924948267224, 57906879556410, 168456380799344, 490505340309600, 1429472717114208, 4169295414140220, 12169835294351280, 35548729381861332, 103911670590189280, 303941636389253448, 889585277491970400, 2605214026691600584, 7633882962663652968, 22381156867096140300, 65651393478907096224]
def nk4 : List Int := [4, 6, 20, 60, 204, 670, 2340, 8160, 29120, 104754, 381300, 1397740, 5162220, 19172790, 71582716, 268431360, 1010580540, 3817733920, 14467258260, 54975528948, 209430785460, 799644629550, 3059510616420, 11728123327840, 45035996273664, 173215367702370, 667199944785920, 2573485491767580, 9938978487990060, 38430716784401786, 148764065110560900, 576460752169205760, 2235968978631333700, 8680820740063910490, 33731189163354608172, 131176846744469693440, 510526106256177860940, 1988364834885248566110, 7749524484709159655580, 30223145490338241575328, 117943982401427236556700, 460543169376896868580110, 1799331452449680632120820, 7033750223211988103153100, 27509778650786228307224896]
def nk5 : List Int := [5, 10, 40, 150, 624, 2580, 11160, 48750, 217000, 976248, 4438920, 20343700, 93900240, 435959820, 2034504992, 9536718750, 44878791360, 211927516500, 1003867701480, 4768371093720, 22706531339280, 108372079190340, 518301258916440, 2483526855452500, 11920928955078000, 57312158390925480, 275947429515625000, 1330460820661272300, 6422914307692955280, 31044085819498371984, 150213318486367502520, 727595761413574218750, 3527737025058629261360, 17119900268644445082720, 83153801304953438892768, 404219867454528801812500, 1966475030860385379275760, 9573628439714532149465460, 46640753937073242938701920, 227373675443229675292959000, 1109139880210888095018340320, 5413658939124561491321383560, 26438799470143262730088344840, 129189588320018161426890980100, 631593542897866831884765581600]
def nk6 : List Int := [6, 15, 70, 315, 1554, 7735, 39990, 209790, 1119720, 6045837, 32981550, 181394535, 1004668770, 5597420295, 31345665106, 176319264240, 995685849690, 5642219252460, 32071565263710, 182807918979777, 1044616697147510, 5982804703612275, 34336096654504470, 197432555672631510, 1137211521197187744, 6560835698712212085, 37907050706572561920, 219319364799516118995, 1270539768509961827010, 7369130657342103747013, 42788500591109682174150, 248708159685736867952640, 1447029292717527422531950, 8426817645825103093490145, 49116308564240645457953442, 286511799958067610667737360, 1672609426782249007487343090, 9771560335412070271117109355, 57126045037793735332309751330, 334187363471093260292010105882, 1956218713001522058708123801450, 11457852461866057250123082163055, 67148344660238292061702110021870, 393733475507760891370396375985775, 2309903056312197246922542135973176]
def nk7 : List Int := [7, 21, 112, 588, 3360, 19544, 117648, 720300, 4483696, 28245840, 179756976, 1153430600, 7453000800, 48444446376, 316504099520, 2077057800300, 13684147881600, 90467419857752, 599941851861744, 3989613300756720, 26597422099164768, 177719138482075512, 1189945536525257232, 7982551306946640200, 53642744786558595360, 361056936059648665200, 2433791198649416288368, 16428090590859347782200, 111031232959075162994400, 751311343022917008125920, 5089528452736961503711056, 34513364820121481667960300, 234272536960831652186659616, 1591675177586819971718990400, 10823391207590422333791908160, 73659190162768106759766230600, 501678808676150656823058477600, 3419337143345342334691498955928, 23321632823842593354361746945600, 159170144022725697648729220896240, 1087015617716175509760732828648000, 7427940054393865970066280464674416, 50786380837018525560681680296600752, 347425014362331277042167380015769000, 2377931209413289630141251014163020480]
def nk8 : List Int := [8, 28, 168, 1008, 6552, 43596, 299592, 2096640, 14913024, 107370900, 780903144, 5726600880, 42288908760, 314146029564, 2345624803704, 17592184995840, 132458812569720, 1000799909722368, 7585009898729256, 57646075176655056, 439208192231079912, 3353953467556739628, 25665035232987202248, 196765270116704540160, 1511157274518286467072, 11624286727042597610100, 89550060712194748710912, 690814754065345312456560, 5335948445195604633185880, 41264667976178169648435492, 319468397234936845135257864, 2475880078570751753705226240, 19206827276185293961810959624, 149135364732732804534911739300, 1158994834494381167082700012632, 9014404268289630799130244218880, 70166173763984157142304004448920, 546557564056297641315968348448012, 4260346140336268823409623917416120, 33230699894622896793772138891418112, 259361560153154316664157475176652600, 2025490279291300377538577986262919084, 15827086833532021556436028252640381928, 123739042516704895803186516877578481200, 967914288130669407184709993690707216896]
def nk9 : List Int := [9, 36, 240, 1620, 11808, 88440, 683280, 5380020, 43046640, 348672528, 2852823600, 23535749880, 195528140640, 1634056262280, 13726075468992, 115813759112820, 981010688215680, 8338590828280440, 71097458824894320, 607883272778506896, 5210428053881313120, 44762313734192280600, 385345135637065265040, 3323601794857918220280, 28715919507674103548448, 248503149585543516657840, 2153693963075557751961840, 18690986893833487872180360, 162418230939525683962813920, 1413038609173866587322502752, 12307110466998252633182254800, 107302619384140957238676882420, 936459223716139768542098810400, 8180246748343926311179531663680, 71518728714092617180444913749824, 625788876248310396159589726354680, 5479880970390609992069225158728480, 48021062187896661210742112110094520, 421107776109247644775165775867780160, 3695220735358648082598138618682083216, 32445840603149105118164607118474382400, 285059885299095709249840976540684441520, 2505875270768794839474992098615195905840, 22040312040625536428996299346861300098200, 193954745957504720575364388428240796011712]
def nk10 : List Int := [10, 45, 330, 2475, 19998, 166485, 1428570, 12498750, 111111000, 999989991, 9090909090, 83333249175, 769230769230, 7142856428565, 66666666659934, 624999993750000, 5882352941176470, 55555555499944500, 526315789473684210, 4999999999499999505, 47619047619047142810, 454545454540909090905, 4347826086956521739130, 41666666666624995833750, 399999999999999999996000, 3846153846153461538461535, 37037037037037037000000000, 357142857142853571428571075, 3448275862068965517241379310, 33333333333333299999666636703, 322580645161290322580645161290, 3124999999999999687500000000000, 30303030303030303030299999999970, 294117647058823526470588235294115, 2857142857142857142857142856854286, 27777777777777777749999972222250000, 270270270270270270270270270270270270, 2631578947368421052368421052631578945, 25641025641025641025641025384615384590, 249999999999999999997499999999997500250, 2439024390243902439024390243902439024390, 23809523809523809523785714283333333547645, 232558139534883720930232558139534883720930, 2272727272727272727272499999999999999999775, 22222222222222222222222222222199999977777800]
def nk11 : List Int := [11, 55, 440, 3630, 32208, 295020, 2783880, 26793030, 261994040, 2593726344, 25937424600, 261535549220, 2655593241840, 27124986721140, 278483211283552, 2871858103075830, 29732178147017280, 308884295062917420, 3218899497284976120, 33637499745331128504, 352392854488482886320, 3700124972116111338300, 38931749706749450967240, 410405528158519685499620, 4333882377355348881666768, 45839140529718708451845720, 485555340425923346840870840, 5150354860946387653137230940, 54700320592120399117739196720, 581646742296213438042823176816, 6191723385733886467875704557800, 65980552329226726237371418457430, 703792558178418428515196438928400, 7514020547610761442516835801767840, 80292676708754993858891825809535904, 858685570357518684169817569026906020, 9190256374637226999794780602858432080, 98432482749403983917245174076709666060, 1054994302288483725079005967294217648160, 11314813892043987951455520258850910757624, 121427271036569626796288516191186859786400, 1303897600892688135359969536950030137802360, 14009318409591207407822961135452977009310040, 150600172903105479634094982143633438310057300, 1619788526335623380953397039727948047309172832]
def nk12 : List Int := [12, 66, 572, 5148, 49764, 497354, 5118828, 53745120, 573308736, 6191711526, 67546215516, 743008120140, 8230246567620, 91708459194066, 1027134771622388, 11555266154065920, 130506535690613940, 1479074070873471072, 16814736808980154044, 191687999619277886868, 2190719995684269792028, 25093701768713336782842, 288032055084749435266092, 3312368633474246983459680, 38158486657627605184041984, 440290230664929790846546230, 5087798221017014024349155328, 58873093700339687858306397180, 682115844252212087152156009860, 7912543793325659697395559891518, 91887605341846376643464628941196, 1068193412098964122702643220971520, 12429886977151582585952283654094796, 144771624792706667700544180481810910, 1687623511869266298527010254783657604, 19688940971808106815408915689238512640, 229881689184354112015571126597698106340, 2685986052575084887752476321315982533898, 31405375383954838687665716984757495005140, 367442891992271612645593044753949455547296, 4301770442836350587071479673214758866431700, 50392168044654392591407666526201620813124506, 590643085918739857350465488154882240637506012, 6926632553047040145291809996056370993921261100, 81272488622418604371424051170111453933348952512]
def nk13 : List Int := [13, 78, 728, 7098, 74256, 804076, 8964072, 101962770, 1178277464, 13785812040, 162923672184, 1941506688940, 23298085122480, 281241165925044, 3412392867581152, 41588538022965570, 508847995257725760, 6247522607852670508, 76943173177655058456, 950248188737147045928, 11764977574926206188272, 145992676270593770216508, 1815387191887526798567208, 22616698765597800577948780, 282256400594672666641214736, 3528205007433396683972808600, 44167899722684889501799648472, 553676171523656867067612477780, 6949590566710729337879446771440, 87333188121664830306484018526576, 1098707850562880144675715116994504, 13836851993026271801215518217675170, 174428194821179669028971809265873104, 2200873399361355235434662163345981600, 27793886929077686119273602375737661216, 351283848686954088448806490297539408940, 4443265977986338199878469136554025225360, 56242393037142859845791624589266070718092, 712403645137142891380514551553062682758560, 9029716202113286148247546816939131873229416, 114523229880461190172901741691156635001856800, 1453354322054424151479913839448892276887361784, 18454219996318967132745027166930798230880599288, 234452476771415968800101522147169051277435223100, 2980151482516665203414624720490801323509015476448]
def nk14 : List Int := [14, 91, 910, 9555, 107562, 1254435, 15059070, 184468830, 2295671560, 28925411697, 368142288150, 4724492067295, 61054982558010, 793714765724595, 10371206370484778, 136122083520848880, 1793608631137129170, 23715491899442676060, 314542313628890231430, 4183412771249777343369, 55778836950189862687230, 745408093788716888213775, 9981986647260065020966110, 133924987517403510056790070, 1799951832233934924580587552, 24230120818533708841863073785, 326657925109121523349049013760, 4409881988973140168365105580715, 59609439299223141433352308482330, 806714411849486508879088414145673, 10929679128283365674424984561727950, 148233773177343146891327811311892480, 2012385769195446358721400065075571350, 27344771334361653461729280589102799445, 371888890147318487091714754703527523706, 5061821004782946074292037524828484120720, 68950210443529860039166573439627556191370, 939900237098643881586376545730740136650855, 12821203234268680641129127963676546736578490, 175009424147767490751410504998077030968003514, 2390372622506092556604659857426807106096690850, 32668425840916598273596990162080957450132167355, 446721730103696739183140618936786555920767620310, 6111965489146032658823878095476532802465477307175, 83666016473643469285233536364427487505158073002648]
def nk15 : List Int := [15, 105, 1120, 12600, 151872, 1897840, 24408480, 320355000, 4271484000, 57664963104, 786341441760, 10812193870800, 149707312950720, 2085208989609360, 29192926025339776, 410525522071875000, 5795654431511374080, 82105104444274758000, 1166756747396368729440, 16626283650369421872480, 237518337862832197499840, 3400830746671977046342320, 48794528104429659636124320, 701421341501170951065090000, 10100467317616939544677704000, 145679817081013476271503155040, 2104264024503529071806437500000, 30436676068711758746044921873200, 440807032719273762456301985115840, 6391701974429469541019896549450432, 92782770596556816129915175899382560, 1348249635231216234182567138671875000, 19610903785181327045641161916619318080, 285511687460728143749819092739329618560, 4160313160142038666111017976488380978304, 60671233585404730547411292934628357250000, 885472057732933905287142339590433481577280, 12932552422152060985114258686697106612356080, 189014227708376275936293845566369552283653760, 2764333080235003035568289178267059326107804000, 40453654832707361496121426703544651589742520960, 592357088621786364764635057971305628935463478880, 8678720135621521158179538635818590951520343159520, 127222147442633662432404598756470789475874467328400, 1865924829158627049008600806700997044845897583203200]
def nk16 : List Int := [16, 120, 1360, 16320, 209712, 2795480, 38347920, 536862720, 7635496960, 109951057896, 1599289640400, 23456246655680, 346430740566960, 5146970983535160, 76861433640386288, 1152921504338411520, 17361641481138401520, 262353693488939386880, 3976729669784964390480, 60446290980676483150656, 921086338754003167945680, 14067500446423976206306200, 215293919875718308678108560, 3301173438094335671428014080, 50706024009129176059868086272, 780092677063525612321062458280, 12019205691052841732706937077760, 185439173519100984159746510400960, 2864715508157146277809929009224880, 44307599859497195725029481871538184, 686053159114795289240674611757597200, 10633823966279326982653995729939333120, 164985390022273194406484657615639555600, 2562126056816477842539080929333920861960, 39822759283090398467028068344014923561136, 619465144403628420598083219607889358356480, 9643565491256485682826256550334426597180720, 150236599232206303269291271577217227137041240, 2342150059825164933018725693455466285355600240, 36537540933272572955092090594761585125561573376, 570342102373035285152657495694159227182802943600, 8908200456112170168098649948394173027149003558040, 139216528058311124487495187786183610430481388279760, 2176840256911773946531742929259302594427866509355200, 34055456463686419074629933936673537388129278863495168]
def nk17 : List Int := [17, 136, 1632, 20808, 283968, 4022064, 58619808, 871959240, 13176430176, 201599248032, 3115626937056, 48551851084080, 761890617915840, 12026987582075856, 190828203433892736, 3041324491793194440, 48661191875666868480, 781282469552728498992, 12582759772902701307744, 203211570332277826420896, 3290092091095653927165888, 53389221660050644867170672, 868155169602587991415611552, 14143694638108805083928800560, 230825096493936095157582742848, 3773102538843185789899794497760, 61767086006247714352348782945888, 1012539017030989311405438600234960, 16619605934715548796255580180105920, 273115524193825518456385865375526336, 4493190881898419821336065080305410336, 73997237336264601431107659545165136840, 1219833245785695247859085061217705299776, 20127248555463971589650572931290252168320, 332387133287376445109488406821080944757888, 5493620675166360690003653860375235533132080, 90867455491940884926553384729600915546601280, 1504095513274495174178995787433770808618088368, 24913992348085227756913726741374684240045502080, 412949423169512650070844919132504434534930732192, 6848917262323624440199380831756998255917179638400, 113659412662846815114737342158159373880659884617696, 1887274898634247116091220080825317961264247942683872, 31354498884128060042333679043380558026432199707449200, 521181448118395309148124265431471695594853022525217664]
def nk18 : List Int := [18, 153, 1938, 26163, 377910, 5667681, 87460002, 1377481950, 22039920504, 357046533675, 5842582734474, 96402612275775, 1601766528128550, 26772383354990049, 449776041098370870, 7589970692848393200, 128583032925805678350, 2185911559727674682148, 37275544492386193492506, 637411810819625385355305, 10927059614053781263221282, 187746751550557502732165013, 3232509287566170778839946818, 55760785210516397733222362550, 963546368437724185756611272160, 16676764069114456260288855415875, 289063910531317255726976057682432, 5017323589936435211017877389953675, 87197623769929770796539683483310150, 1517238653596778011634902353043703235, 26429318482008391174331834387392973394, 460861241030021321098616376783396403200, 8044123479796735786514816500688079233034, 140535569029390031093753385029582698512375, 2457364807028191400840469087033711640372710, 43003884122993349514707116067277950461216400, 753149105721613256365700525593575410832379350, 13199929063436695493146206363420417586228639197, 231506448189505120956718407713224646207530717350, 4062938165725814872790407736661196501374123786810, 71349158032258212400221799996690570149243283506750, 1253706633995394303603897337335461630957113549624809, 22041911983732978919175497468745058927035994839620298, 387737269895666492805496250833596524441216606303370375, 6824175950163730273376734016323470243660418650905627880]
def nk19 : List Int := [19, 171, 2280, 32490, 495216, 7839780, 127695960, 2122929090, 35854187880, 613106378136, 10590023536200, 184442905990860, 3234844881712080, 57071906063500860, 1012075135324821024, 18027588346914850290, 322375697516753069760, 5784852794310472599780, 104127350297911241532840, 1879498672876991356348392, 34009975985398724037137040, 616817291735180655342839700, 11209983823709031619488089880, 204115122123368525182683032460, 3723059827530243581464384312176, 68017439156802525351638428195080, 1244467220128164752693175800872680, 22800417283062447047592808254676020, 418269723951352477396569000736721040, 7682220596573173834344279541498255824, 141253733549893841479505834474604276600, 2599951533152733519723140471624196804690, 47902137338086726666580296772388066682800, 883371767970011106468834285048319056680160, 16304518917389347850827745014043200598873568, 301180696668442120022231841860728255254666060, 5567772878951740813384015087903671348387813360, 103003798260607205047604227062542770989553780740, 1906890829337394924214622808439212721729040020320, 35325152613475240971075886586587099206548231532072, 654807706981492271658967671219894904642687422520800, 12145123898537678086246090837287824624387466941283240, 225390903977513188670334430272689871712009686993729480, 4185099285218824435083255216345855562966768712865351900, 77749844498731938393991141358288108412674338752246671904]
def nk20 : List Int := [20, 190, 2660, 39900, 639996, 10665270, 182857140, 3199980000, 56888888000, 1023999679962, 18618181818180, 341333327986700, 6301538461538460, 117028571337142830, 2184533333333119468, 40959999998400000000, 771011764705882352940, 14563555555527107556000, 275941052631578947368420, 5242879999999487999992020, 99864380952380952319999620, 1906501818181808872727272710, 36472208695652173913043478260, 699050666666666495998933340000, 13421772799999999999999999872000, 258111015384615381464615384615370, 4971026962962962962962944000000000, 95869805714285714227199999999994300, 1851279006896551724137931034482758620, 35791394133333333332241066325331306946, 692736660645161290322580645161290322580, 13421772799999999999979520000000000000000, 260301048242424242424242424236218181817940, 5052902701176470588234908611764705882352930, 98170681051428571428571428571428571391908572, 1908874353777777777777770495999886222224000000, 37145663100540540540540540540540540540540540540, 723362913010526315789473546239999999999999999990, 14096302920205128205128205128205126104615384615180, 274877906943999999999999997378559999999999360004000, 5363471355004878048780487804878048780487804878048780, 104715393121523809523809523759591619008609523838476390, 2045603028420465116279069767441860465116279069767441860, 39982241010036363636363636362683112727272727272727269100, 781874935307377777777777777777777777777049599988622222400]
def nk21 : List Int := [21, 210, 3080, 48510, 816816, 14292740, 257298360, 4727833110, 88253337480, 1667987689368, 31843409140200, 612985618785540, 11882490595316880, 231708566480029980, 4541487905529839264, 89410543137760154310, 1767173087945981876160, 35048932910884509110340, 697289296859527690820040, 13910921472346743437801208, 278218429446951548551429840, 5577014881186603757795594100, 112025255439487751823003298680, 2254508265719690698943552467140, 45450886636908970669628898177456, 917758287860661901810876688069640, 18559112043404496356765104071388680, 375822018878941051108639669851309180, 7620115417269563383448360153638812240, 154688342970572136681730966610104077392, 3143666324885820842287776709835057088600, 63953961796895917760247252169136880604710, 1302335222045880507118672587872872362354800, 26544656143464564453917942984140038027398880, 541510985326677114859944062041953824722497888, 11055849283752991095057173742223230796277476740, 225897893473439493726033421557231277983455027760, 4619017453391118069082314613196633227950485026020, 94512203277079800490453521526906220727786101252320, 1935137362098208915042035846307944214325629074687288, 39646716686890133869153905286372198985841749716936800, 812757692081247744317655058231520864409043906049887720, 16670983358503732802050506080997575113093132014696146280, 342134044834747061823900158886775363630386194916400370100, 7025152387273473002784083262532378152655932001673462004384]
def nk22 : List Int := [22, 231, 3542, 58443, 1030722, 18894799, 356336838, 6859454910, 134141023016, 2655991763733, 53119845582846, 1071250209786295, 21754619837160210, 444415805066675871, 9125337867693792514, 188210093517761829360, 3897056054085849008970, 80972164679272230376012, 1687630379632545560306094, 35271474934318874214246129, 739021379576232808099070598, 15519448971100862412652059627, 326583187044036098379401213862, 6885462193511760538538312813590, 145420961526968393886379772302752, 3076212647685869859796108346031165, 65170134610233983926859038521794048, 1382537855659963801654731220301442915, 29367011002984058688144637921417449330, 624538433996794314763313296642962987149, 13296624723802717669251552834355332864726, 283384314426045420325829614735437435893760, 6045532041088968966953039355335851393967806, 129089890053840925588465891824522460447610505, 2758835364579228924004969845248772243424071762, 59008423075722396430106258981738265121707707920, 1263099218269517242503897004824708156886852411170, 27056914833457553563109792891114084912829795180963, 579989251301808071250250963138483933095376797337170, 12440769440423783128317883141684743053281261661493978, 267021392867632418363896028785415191658253669315941850, 5734602294442962889624624236879167949962430939984711111, 123227267908495295581701227795762303796892693346640699582, 2649386260032648855006576397601129807147642462466487610175, 56991242215813424258808132286342334813795418974690301298936]
def nk23 : List Int := [23, 253, 4048, 69828, 1287264, 24670536, 486403632, 9788838180, 200128072144, 4142650477680, 86619068901264, 1826218690308760, 38772027841266720, 828059737223851704, 17775682364292319808, 383288150975167978980, 8297061150627233466240, 180230606105191499145288, 3927130048820563713784656, 85807791566727245820620112, 1879599243842642184944988192, 41265747035272510118044665768, 907846434775996175406740561328, 20010448499854248119810958925720, 441830702876781818646952496130144, 9771255929005751739152358595630800, 216415223909090353763183146799011792, 4799780501698039631262283545148518120, 106588229072190949062053304777242873760, 2369811626371712100804097300317665091744, 52747420070854237082611604793151062140784, 1175278453453720969996748175221907072116580, 26212270961876928300537809303088832069357664, 585150401766605546473766359147846397120760000, 13073931833756729638356815342986450794094524864, 292347642393726871079923141859810029984777284760, 6542266159513671601464228002037679363634180684640, 146512328993319329811738367239963005548999400018952, 3283378860004130621934854735484192248214755297538240, 73629770935592629196889117400329115672672135129905744, 1652180225871834606369219220677423671696435414827051200, 37095379833265238900146993453793784244701196999366136784, 833352021370563273896325480866805628265674132841486360208, 18731480662170160860987861376735520907272175481927801577400, 421250187335915617584882571406160613914644952544622770928192]
def nk24 : List Int := [24, 276, 4600, 82800, 1592520, 31848100, 655210200, 13759372800, 293534169600, 6340337300220, 138334649379000, 3043362270385200, 67422179881950600, 1502551437041579700, 33657152197069208680, 757285924427189452800, 17105752646040150436200, 387730393310096632185600, 8815764732106587003751800, 200999435892027013516476240, 4594272820389261341165391800, 105250613703463008835285906500, 2416188001540369790668625856600, 55572324035428503663692665075200, 1280386345776272759471118213611520, 29547377210221679031007022688179100, 682872717747345471717929616251289600, 15803625753581423773292240521823132400, 366208155393335061246801479780041345800, 8496029205125373420908965752684972215980, 197327129925492543969889416717606794847000, 4587855770767701647299550295722140945612800, 106771916119684692882616528027517128716511000, 2487157575493831669500941158824561870833990700, 57986302331513332637507856135654916313637713160, 1353013721068644428208516449300083711078814515200, 31594698783873210431679956207967651699610343008200, 738318224212616075350836866978309073663916618947300, 17265287704664252838973416069338630567836084403215400, 404007732289143516431977935922024237867242283519818240, 9459693243843360384748751672722512136115294707070361000, 221627098855758729014113610615773147921148566273081007300, 5195351526665227880144802779139880153639506972143573148600, 121854608534511708461578101547046381933056704716729773998000, 2859521480276541425231699449638590036563173418417031597575680]
def nk25 : List Int := [25, 300, 5200, 97500, 1953120, 40687400, 871930800, 19073437500, 423855250000, 9536742187440, 216744162819600, 4967053710905000, 114624316875751200, 2660921641322544600, 62088171641031248960, 1455191522827148437500, 34239800537333768956800, 808439734909057603625000, 19147256879430068166632400, 454747350886459350585918000, 10827317878249145689174106400, 258379176640036322853781960200, 6178632484870436398879341457200, 148029736616687536239617665625000, 3552713678800500929355621337500000, 85401771125012041513736431415264400, 2055968564120660260043762207031250000, 49563527885051631267581667218889495000, 1196361017915039375456499642339246026400, 28912057932946784906834363934199007487520, 699485272571293183230614710238672071887600, 16940658945086006781365722417831420898437500, 410682641092994103790701818511269309303976800, 9965093497109415753744953476330813239602481600, 242009413501228668305235000194183417728794363840, 5882173244821530132418905850499866737259765625000, 143079889738902084302081503493182763860032365128800, 3482865737065379683669089220194636206877859015213800, 84839037184925915371426532519996190071105957031249600, 2067951531382569187178521729947533458471298213958750000, 50437842228843150906793212931095295949134884811029201600, 1230923530584862611415786744146316777913875523067795526800, 30057435049165249813641304217658533923176312169363332349200, 734357788133014626128736409863119082398373972285877574565000, 17950968154362579749813556685546068870785832405090247260200000]
def nk26 : List Int := [26, 325, 5850, 114075, 2376270, 51482925, 1147401450, 26103325950, 603278184600, 14116708377135, 333667680635250, 7952413029359175, 190857913323364350, 4607855335376095725, 111817289485714268430, 2725546431201252937200, 66695724434420630914950, 1637750566667138280657300, 40340382378966415288138050, 996407444760463399262204385, 24672946251211649426324443050, 612337666052798041665340292625, 15228571520965242402675274307850, 379445240397383952557110356158550, 9470953200318703555071806597063520, 236773830007967588781366208276787175, 5928115151310595928915315780329689600, 148626315579287083644072923009115719475, 3731033025576586099812494734238689019550, 93773296709491530641898125671083946738215, 2359457143013012706474972476452105146428250, 59428826789640257544337006477421791223347200, 1498326784514566493239076461106868033456467250, 37810717091573472094091954994190376956223102475, 954990683112884266605066219839271235520344094910, 24140042267575685628072506404839625802245751254800, 610677826012184912104753155713436687362615643811950, 15459791279571628564336119342891021790591430496644025, 391648045749147923629848357197550728764938195123609150, 9928277959740899864016655854459707253423697379936762010, 251839245808061850209202977784298229630148534598160229750, 6391919905509379341024056531370090021771390077832913941525, 162325035739912610241820226331851389126260390347037416924850, 4124531589936870414780795750886281400329680791986382957911375, 104854758641950661211316229755872359536047452207740798220932680]
def nk27 : List Int := [27, 351, 6552, 132678, 2869776, 64566684, 1494336168, 35303625630, 847288607256, 20589111774504, 505369142414136, 12507886242420660, 311735011770690480, 7815642080075143236, 196954180436721288672, 4985402692286880020430, 126687880180915162724160, 3230540944612912983639132, 82633836793793769033712344, 2119557913760799881158090392, 54502917782420833089309015408, 1404688835574209400130003420332, 36277616014394805816167709943272, 938683314372465594239384589532020, 24330671508534308364787359704180496, 631661664163871467006881255680395320, 16423203268260658146231467518279718808, 427589827948643563874761465628054793420, 11146824480316363251457723473150354201840, 290932118936257080862948105552142833373232, 7601774720592523725776378449866827038100616, 198833920035498198702335906127983042449386030, 5205833542747589202388496260258632277983917136, 136423461370238293509651412182253775845917687840, 3578192501082250098338858700944170550474332946976, 93927553153409065081395039284514000473995356996660, 2467502207165232736732864317691635448523249762159760, 64869334341001776420950827679050024052438023704133308, 1706562488047892887381937160028114947409360530300416160, 44925257497860780260329495736680347036406485593528191704, 1183397026772918114174533058457544782262191266915170240800, 31190964491371913152171621326460893159302511333121096844376, 822571017051529058478200432191571069698479878530872635518392, 21704657972655119020299788676690525199217102417317754754420900, 573002970478095142135914421064648407151961017733212229536975328]
def nk28 : List Int := [28, 378, 7308, 153468, 3442068, 80311266, 1927561212, 47225172960, 1175383992384, 29619674948430, 753955406133804, 19351522050559020, 500162417115226740, 13004222844032114634, 339843690349224914916, 8920896871643571548160, 235091870500405794678180, 6216873908787921073832928, 164910760527863601656358156, 4386626230041156994220761524, 116976699467764581440934198252, 3126468149411162072460801986898, 83734973045098959515396483180988, 2246888443376822070654028844915040, 60396361357968977519265175388095488, 1626055882714549394499365821140414750, 43843284541340442939911015816359575552, 1183768682616191959371095326197666523740, 32002574040382568832828841072214102164020, 866203004026354863075064043166213844495878, 23471307205875422096232146148963220219392924, 636659207959370824360292503842191514858946560, 17286262131260492685661396363769509415232065244, 469779594390726330633856654222395894442382605350, 12778004967427756193240904192098607134351228485428, 347845690779977807482669055454247344479254425707520, 9476444765032908917365686784626642696394818961864980, 258357809909844569431338197519470983774621684553192482, 7048531019078836458331893390985888495654328128802086980, 192424896820852235312460689571721442820894050000570955168, 5256484986325719598779413959092305528005472981011976088900, 143677256292903002366637314881797862749078044449325202558834, 3929405893033812343794546100024722532376928453526719986084268, 107522833982107046862014397827947662424603063919824618548492300, 2943736254799019594088927513867409911366466820614164852311688384]
def nk29 : List Int := [29, 406, 8120, 176610, 4102224, 99133020, 2464268040, 62530713210, 1611905105720, 42070721278824, 1109137251427800, 29484565217494940, 789279131766046320, 21254159475610684740, 575279249839877593696, 15640404604990443898410, 426891043337063124402240, 11692071353619867366085020, 321224276136315341556781560, 8849728807555466624527631688, 244421081351532516319931555760, 6766019933776513192674036312300, 187683509467365903075687755336520, 5216037533947210708236185389928540, 145214484945090346527721130058152784, 4049250060968865431628353483838345720, 113079057258167575397975434999361710520, 3162175065469471840582757421161844730980, 88540901833145211536614766025207452637360, 2482096614722504096742812967934372055866416, 69658840477696082715048307373831760076535400, 1956978049670274323775880565081283498795516810, 55032594851333774923152255198277442922593597200, 1549005684491953605925197087282474410636240113440, 43637702997401893012635558243365832401698166051232, 1230340792843414483550696983515528754687145456730140, 34715561830500668130457504240364142614702703840914640, 980257838003347813262655316942301678394368677150593660, 27698567627684340774755029729420795531575471966789288480, 783176999672774735406198465594948129258957681835411327368, 22158178527327285196858298051104211528018855946007806775200, 627287482595051002358678961494232730097755713779235411875160, 17768282646529584206345836630235449248781817950565004311992920, 503569283186872534211664960861442190018008725023911841783861100, 14278986785476652303424099779093434470748819420379855307317102176]
def nk30 : List Int := [30, 435, 8990, 202275, 4859994, 121495355, 3124285710, 82012398750, 2186999997000, 59048997569913, 1610427272727270, 44286749939182575, 1226402307692307690, 34164064284152142795, 956593799999998378202, 26904200624958993750000, 759648017647058823529410, 21523360499998906459501500, 611716561578947368421052630, 17433922004999970475499959545, 498112057285714285713244284430, 14264118004090908285695454545415, 409318168813043478260869565217390, 11767897353374999977856597662533750, 338915443777199999999999999999028000, 9776407032034615384002183461538461505, 282429536480999999999999999271000000000, 8170283019628928571411489396428571399675, 236656473672010344827586206896551724137930, 6863037736488299999999521703080316976510929, 199249482672240967741935483870967741935483870, 5790688090162003124999986547899687500000000000, 168456380804712818181818181818181281372727271910, 4905053441078402647058823149587755882352941176445, 142947271711427734285714285714285714285713660162858, 4169295424916642249999999989238319735237750020250000, 121698352943512800810810810810810810810810810810810810, 3554872941244716023684210526009931192894736842105263135, 103911670590230160692307692307692307691898891538461537770, 3039416364764232200249999999991283038997499999983597520250, 88958527749197040007317073170731707317073170731707317073170, 2605214026940770457357142857142608086828488611978571931929235, 76338829626636529680697674418604651162790697674418604651162790, 2238115686780934620184090909090901958850088863636363636363617975, 65651393478907415525399999999999999999999999681135399562600000600]
def nk31 : List Int := [31, 465, 9920, 230640, 5725824, 147912160, 3930373440, 106611264240, 2937735792320, 81962825835072, 2309861536036800, 65638565241676960, 1878272792111157120, 54067423942377407520, 1564350799456310484736, 45463945109145773299440, 1326477457303690775216640, 38836312222167699890529760, 1140561169472126115511277760, 33589526440954073120392734912, 991690780637692892528233714560, 29345031736142638528557097442400, 870143984523881750614727141056320, 25850527540230320308359867287270560, 769311699597254333353492559949569664, 22931406430302773397097661064013805760, 684544947512001309585839212088011171520, 20463004323840896290092517050074030010720, 612478888037720619993923105567451819442560, 18353950678197027912483780221410923728236928, 550618520345910837374536871905139185678862400, 16535762439138134834904037702428656570378841840, 497075040594697871400752362149272002184305859200, 14956110780246350660087342468487919756899573669120, 450392593210847245592344561738282497794776047005952, 13574332323160257262991495799638413592239584537216160, 409431212774239110959419171191003562522359967788647040, 12358357922422427901854047087747642736662539127864838880, 373285785451631283804719678718936248014952200727268660480, 11282562865275555552997652289263053333050376808289989376192, 341228730559553387456514361919683210716484360806076752211200, 10326231346218865606124517952378488936053749383091553273062080, 312668679366906116724979590092963678731167448840005351485430720, 9472439763547405763509040763498180412680636685583047654478138400, 287120174166192476920585146698034179915734054776672869358847680256]
def nk32 : List Int := [32, 496, 10912, 261888, 6710880, 178951344, 4908534048, 137438822400, 3909374672896, 112589987328720, 3275345183542176, 96076791961004800, 2837960626724546400, 84327972905932254576, 2518595457530475208160, 75557863725845603942400, 2275625072215772564152800, 68774446626963616080740352, 2084951645112219410356419744, 63382530011411413779839765760, 1931658057490635278469530609568, 59003373392441221413810321060912, 1806016298620809609923650897120032, 55384499824371494656286852340121600, 1701411834604692317316873037157498880, 52351133372452071300638651599217451600, 1613190480217782345307849989484516999168, 49778449103862998083742921443564470777600, 1537982427484870561485221949837818034895200, 47574923090198662701941606350550209275801360, 1473287940857765038511779065238188527878964256, 45671926166590716193865113243451981407086182400, 1417213708926936163106603474149121836369479466016, 44016990489024840830605095000466105425280627453200, 1368299590058829337819952702812776056802444662141280, 42569320579608023843287417386454698421678815104204800, 1325401548856984958580192023481348483129720321888520800, 41296721943333426077867035677955329546538334008400964528, 1287610612387011438735546548350290546891844873527304024800, 40173451106474756888549052308497373798049369109504915537920, 1254195546738724117496165535485785445870987702464618798284000, 39178679936219191479880218632316903337226842421455030588589616, 1224561531029734729045558461438028282777849946518012921561755552, 38295378788566249708333828248607400432456974834133605623747552000, 1198219851873361768651867337200872474383873084606715845868126371840]
def nk33 : List Int := [33, 528, 11968, 296208, 7827072, 215238496, 6088348992, 175800929040, 5156831596224, 153157894612800, 4594736955793344, 138990792805027680, 4233873384111423360, 129737977267227298464, 3995929699924358758144, 123624075091322029332240, 3839618332250849586577920, 119668104688482233627465568, 3741202851839998862964056256, 117286709405183887774973841216, 3686153724162924593978412835712, 116113842311132122413015454146528, 3665158674690518371292988463626048, 115910643087087643422645305105489760, 3672049172998936545831019281936100992, 116516944912466255779059636677120241600, 3702649582773927683712944440901536427712, 117823599223270341649514898810466576448160, 3754103644217303299455576049874826968887680, 119755906250531975252630878026105965452246912, 3824462812516988887100211201003126145304576064, 122263295537652488484484815020031143252740730640, 3912425457204879631503516058626196515067596049024, 125312685967532762314921438899129941898049531756800, 4017166675873478837638338759967133691495375715537152, 128884097517607446040896701822444820211570672983715680, 4138224536511287726934737346922900017603953833832469120, 132967688396849534594403007908467843876564938229292834912, 4275422596144854266189265946655497702801565935195339224320, 137561722030960686014639631833581995232983200274742512820032, 4428816416606539159495714976107454705749884043394637015993600, 142671157420682082923754818158888304944080568403923536925659584, 4598656376396868998426143673679575468768059829151794142490657728, 148306668138799025199243133476166250810848773924083005903357663200, 4785361825278581879762245106830966232800043056883380417002958323456]
def nk34 : List Int := [34, 561, 13090, 333795, 9087078, 257460665, 7503335730, 223224071070, 6746332525240, 206437770862323, 6380803967093850, 198868390178913455, 6241407941966571990, 197050165021192962105, 6253058570124906562022, 199316241922619881179120, 6378119741527407785541630, 204808511700154498972529540, 6596989955815611463234955370, 213082775572844147043601288761, 6899823209025432865640001733170, 223930625965643590721813790667725, 7282613400969626445492930396199890, 237291819981593661582877045847610230, 7745205004199217117310641334964691168, 253208625137282098062804108902921802315, 8290237948939162025565834611845003901440, 271801372754505383552381338336705075336635, 8922582995251349142826235516382589841716470, 293255561110594341827552480775753911034504907, 9649053946219555763358281272619675543667838050, 317815714353606617955613289758789601853812766720, 10478287794446181828354768717745412805879909282650, 345783497216724000335707364496538822019176751628255, 11420734936643798411087934772701488253057427781616534, 377518738183503336366517843773006050226363290701972880, 12488727987475894154395076781175735532937934832803271430, 413442626532754601216552805015624539244090142154343455445, 13696612140520998583891954463703809236275390009369640004310, 454042692458271103056018290471674734794811724243186407453306, 15060928335201187808687435976624939892886182416121285942527150, 499879383315963233459768708367024317009427285601918662216114945, 16600645566865011566989528268560829096819383762662429500744577690, 551594177699014702521333871105361982115367450383031951394125875575, 18337441996393910999375899359413815394326620621791737044676018471592]
def nk35 : List Int := [35, 595, 14280, 374850, 10504368, 306370260, 9191328120, 281484236250, 8757293181000, 275854730099256, 8777196124822440, 281601708851406300, 9097901367844801680, 295681794450360390540, 9658938618861894282144, 316933923431265278906250, 10440176301269845401539520, 345105827736415510913284500, 11442982709154975288792660360, 380479175079402790424988206280, 12682639169313430945075468122960, 423715444974789620367434707918980, 14185256201329913524441097093665080, 475797135086274182658160850019577500, 15986783738898812542045116424558446000, 538016760443710037468123236681096003560, 18133157481621338300004877423087078125000, 611994065004720167625016772230480956977700, 20681178748435371181815907616039802288186960, 699713214322063391651433378206611928163458448, 23699963710908598749484197356768192783478767640, 803576894572994676349698408160959820861816406250, 27272912785507698106414011958280970436468146305520, 926476890213570332732593636303868444463348388671840, 31500214267261391312908183811814524233341215201249376, 1071882291038755676619792365646135757866894787641937500, 36501937478617085203809145430582370986608234611717430320, 1243947606179187508919285350852282993583782086623342413620, 42421802979956907355452551708747332435074357975854116585440, 1447644026691029463504818327060812479759476253089848488309000, 49431747252864420705042577021595214806971276496968618253382240, 1688918031139534374088954714904496831251933858370357100894045320, 57737430366863151858389847230456271248375171210703461669212163880, 1974882561412023716974470910950833611524200982425840117714621769900, 67584869879433700536459671174761868622403603186198239201422369488800]
def nk36 : List Int := [36, 630, 15540, 419580, 12093228, 362789070, 11194880580, 352638528480, 11284439624640, 365615837959554, 11965609440206100, 394865111345263020, 13121671398429092940, 438638729599032237990, 14738261314715553159132, 497416319371473735905280, 16853635291651201872829980, 573023599916135221335474720, 19543120670824172613799482420, 668374726942186520584020211764, 22915704923732115544862861473620, 787466951015521782740792751971550, 27116253269751880724743008603614340, 935510737806439884806201123515117920, 32331251098590562425725584018259033088, 1119158691874288699345478611086758782770, 38797501318308674910870700818152262205440, 1346827545764144000477149294881631874520540, 46813867797595074223489226315876057342587020, 1629122599356308582977417706661707565724887306, 56756529267897202245665131672770507714960987300, 1979383958217914928317571218379711770734236794880, 69098494541425393861267949396522054131350569196900, 2414382691623922585505480105781070737892805373267690, 84434411844219464133105933136870153762037978417914764, 2955204414547681244658707659503943581581637187431736320, 103512024898751213326423922353741356071514670342565796780, 3628368872766753056599912225652951763013470568858827661710, 127272015844741491831504613454015525803617971552270141256060, 4467247756150426363285811932235610768343673231688277079661984, 156898457776990584466623638595603920395567995806284457391819900, 5513860087591383396969916442074069173191784697493028631505784510, 193882708196236551074849154893395579398579093608435602976087029140, 6821146188358504115087874813067644081471079876463158215632689404300, 240104345830219344851093193419981085527200349519773896951757436565312]
def nk37 : List Int := [37, 666, 16872, 468198, 13868784, 427612404, 13561696728, 439059697470, 14440193304936, 480858430307256, 16174329252678216, 548579333606036340, 18736094170467792720, 643718663992862601516, 22229751196787682512928, 771094494638353367676270, 26852231813296185612008640, 938336322809065043647109172, 32891157420570638302540901544, 1156124183333057695905093974808, 40739614079355374899395069437328, 1438849097257233005405266347939492, 50922746311625550999253861437514392, 1805635712966389328907586690208630580, 64136180524566148972540253403317854704, 2281767960970141838436775583609826923880, 81298547350121349947599636022173584049128, 2900616028670401021344393726059428565261580, 103622007093190877865969839533293786516806160, 3706213787033127065006176812431715751011905808, 132706364632476485230866729010041826403345851896, 4756693757295329017493878932406439395858479057870, 170664406322353622930689488256277724024665843307696, 6128860003517463929363878373659622552677466032836960, 220288739554999132089707400312967399480901512121747424, 7924275492325663223782530094122298014183922471096676340, 285273917723723876056171083405292782327767461712708093040, 10277368246415210166339426662663707553045337183077607953748, 370512301396404756253159843275084494955081068433579152703840, 13366231272875301581832741346148095093413108316305512840761176, 482488348386718203441767248592683811467001628561101862375295200, 17427019631015512252884783717026202058655852263148984331649776456, 629804383874374559092626834796715108228635683942002010075882426312, 22773153971457498261735665776399402398569982579377247754482897824100, 823882103678506826002348086310627295024335484584008579090115416509472]
def nk38 : List Int := [38, 703, 18278, 520923, 15847026, 501813351, 16345083222, 543473756670, 18357344578664, 627821176875165, 21688368202141134, 755478158790164615, 26499849270985371330, 935066109982311275319, 33163678034329154091442, 1181456029972704565812720, 42254427424915858359729210, 1516464450916415515626273708, 54592720232991289000770142206, 1970797200410985219017209630113, 71324089157730905001191200284822, 2587119233994057361471948881725283, 94036159983436172315490746679016758, 3424483492730133941444715430882316630, 124925157814795286197683147148137015456, 4564573074002135457209788144238860222725, 167029562856078141916161541180838687862272, 6120440410369149057356023226152815672112755, 224556848159750848173355385096452096986131490, 8248721555734847822901237897370447257551553621, 303340083017346016713142906654807355270685236454, 11166706806076050240252572660502080779413948856320, 411476226551165972489306941621084733720148597002254, 15176211414563592044164438355132794086095136971250225, 560219004217604597744584410917940859306587467221302786, 20696979878039280972230479624821249520894443148590740240, 765228877652911793784089084534938676469052182667436745810, 28313468473157736370011296127765434669238435114194774523867, 1048324319877942854315290041244428297599696808141417631931010, 38840416051477782752381496028105083027468888522011447336613786, 1439937375566981214234631072261493268478659095182014397495039050, 53414819788889445994703695490081071773425679639372568247911440159, 1982559357745757111803420883771382499232803094678046055565030045838, 73625045239921980015608857365509976064313116109878751450871215256975, 2735579458692212235246622433669615158719182438983372900254748713652408]
def nk39 : List Int := [39, 741, 19760, 577980, 18044832, 586447160, 19604429520, 669000868380, 23192040122160, 814040599496592, 28861439756588400, 1031796471004614120, 37144672966729275360, 1345167799571036542920, 48964107904742524764608, 1790250195266814281193180, 65712713049805931754453120, 2420418264001173556740143160, 89428085333096419861836546480, 3313310561591221948860739671984, 123065820859102544647003672653280, 4581404876527499261292069208733400, 170906321046112799068267523333466960, 6387623749098465864660600225939020520, 239152633166246561992208110750983379872, 8968223743734246074689231816678647443760, 336806625042463908139026422633242662573360, 12666334863204089116799142524705385643929240, 476953023124788459156737865468856974524918880, 17981128971804524910208993046121684221340261728, 678642609581009488546598403482768138365149901200, 25639966093232514739151170036458236094033928818780, 969656899525884193771535191594424247714525626333600, 36704365579112145805410758543085526392454449907187520, 1390571107368648723942133310619969621383312376937482816, 52725821154394597449472554693130305678439403040831442920, 2000731159480270670785390994347407643090287421490067292320, 75975133240263962577455768548463423562051471506126110748280, 2887055063130030577943319204843309228979272367652511526392640, 109780268775519412726294712764165176776656506977538529762505904, 4177005348531958142756579314929274637898102244838973228588705600, 159024560769109549292089769632664465752781605464565033602403647280, 6057726291623289342801000992053592923115431490474493244372564418160, 230881977069369459724483605992588073438037984680016843293441604825800, 8804299392245288730826974841850691954455968128239307112064865873736128]
def nk40 : List Int := [40, 780, 21320, 639600, 20479992, 682655740, 23405714280, 819199680000, 29127111104000, 1048575989759844, 38130036363636360, 1398101332991786800, 51622203076923076920, 1917396114274011428460, 71582788266666659835736, 2684354559999590400000000, 101058054023529411764705880, 3817748707555540991772448000, 144672582602105263157894736840, 5497558138879999475711999872080, 209430786243047619047611245711240, 7996448202007272708207709090909020, 305951061642017391304347826086956520, 11728124029610666665967615726933440000, 450359962737049599999999999999995904000, 17321537028348061538435727359999999999940, 667199944795629037037037037027328000000000, 25734855013545691428570469873371428571337200, 993897848799006013793103448275862068965517240, 38430716820228232533333297541938850474533548852, 1487640651105609001290322580645161290322580645160, 57646075230342348799999998657822720000000000000000, 2235968978631460801939393939393939381229381818179880, 86808207405692007604705882302412149458823529411764660, 3373118916335460866925714285714285714285714281030217144, 131176846746379033713777777775868903423533966222336000000, 5105261062561778609401081081081081081081081081081081081080, 198836483489248219524042105263085558445541052631578947368380, 7749524484709161376321641025641025641025623818239999999998360, 302231454903657293676543999999997251220930559999999836160064000, 11794398240142723655670009756097560975609756097560975609756097560, 460543169377001590364257523809523704808416401646582247622851049180, 17993314524496806321208200930232558139534883720930232558139534883720, 703375022321238792556320581818181814183594080814545454545454545396400, 27509778650786228331091649422222222222222222222198361292794174577779200]
theorem nko1 : nkOk 1 nk1 = true := by decide +kernel
theorem nko2 : nkOk 2 nk2 = true := by decide +kernel
theorem nko3 : nkOk 3 nk3 = true := by decide +kernel
theorem nko4 : nkOk 4 nk4 = true := by decide +kernel
theorem nko5 : nkOk 5 nk5 = true := by decide +kernel
theorem nko6 : nkOk 6 nk6 = true := by decide +kernel
theorem nko7 : nkOk 7 nk7 = true := by decide +kernel
theorem nko8 : nkOk 8 nk8 = true := by decide +kernel
theorem nko9 : nkOk 9 nk9 = true := by decide +kernel
theorem nko10 : nkOk 10 nk10 = true := by decide +kernel
theorem nko11 : nkOk 11 nk11 = true := by decide +kernel
theorem nko12 : nkOk 12 nk12 = true := by decide +kernel
theorem nko13 : nkOk 13 nk13 = true := by decide +kernel
theorem nko14 : nkOk 14 nk14 = true := by decide +kernel
theorem nko15 : nkOk 15 nk15 = true := by decide +kernel
theorem nko16 : nkOk 16 nk16 = true := by decide +kernel
theorem nko17 : nkOk 17 nk17 = true := by decide +kernel
theorem nko18 : nkOk 18 nk18 = true := by decide +kernel
theorem nko19 : nkOk 19 nk19 = true := by decide +kernel
theorem nko20 : nkOk 20 nk20 = true := by decide +kernel
theorem nko21 : nkOk 21 nk21 = true := by decide +kernel
theorem nko22 : nkOk 22 nk22 = true := by decide +kernel
theorem nko23 : nkOk 23 nk23 = true := by decide +kernel
theorem nko24 : nkOk 24 nk24 = true := by decide +kernel
theorem nko25 : nkOk 25 nk25 = true := by decide +kernel
theorem nko26 : nkOk 26 nk26 = true := by decide +kernel
theorem nko27 : nkOk 27 nk27 = true := by decide +kernel
theorem nko28 : nkOk 28 nk28 = true := by decide +kernel
theorem nko29 : nkOk 29 nk29 = true := by decide +kernel
theorem nko30 : nkOk 30 nk30 = true := by decide +kernel
theorem nko31 : nkOk 31 nk31 = true := by decide +kernel
theorem nko32 : nkOk 32 nk32 = true := by decide +kernel
theorem nko33 : nkOk 33 nk33 = true := by decide +kernel
theorem nko34 : nkOk 34 nk34 = true := by decide +kernel
theorem nko35 : nkOk 35 nk35 = true := by decide +kernel
theorem nko36 : nkOk 36 nk36 = true := by decide +kernel
theorem nko37 : nkOk 37 nk37 = true := by decide +kernel
theorem nko38 : nkOk 38 nk38 = true := by decide +kernel
theorem nko39 : nkOk 39 nk39 = true := by decide +kernel
theorem nko40 : nkOk 40 nk40 = true := by decide +kernel
def nkOf : Nat → List Int
  | 1 => nk1
  | 2 => nk2
  | 3 => nk3
  | 4 => nk4
  | 5 => nk5
  | 6 => nk6
  | 7 => nk7
  | 8 => nk8
  | 9 => nk9
  | 10 => nk10
  | 11 => nk11
  | 12 => nk12
  | 13 => nk13
  | 14 => nk14
  | 15 => nk15
  | 16 => nk16
  | 17 => nk17
  | 18 => nk18
  | 19 => nk19
  | 20 => nk20
  | 21 => nk21
  | 22 => nk22
  | 23 => nk23
  | 24 => nk24
  | 25 => nk25
  | 26 => nk26
  | 27 => nk27
  | 28 => nk28
  | 29 => nk29
  | 30 => nk30
  | 31 => nk31
  | 32 => nk32
  | 33 => nk33
  | 34 => nk34
  | 35 => nk35
  | 36 => nk36
  | 37 => nk37
  | 38 => nk38
  | 39 => nk39
  | 40 => nk40
  | _ => []
theorem nk_ok : ∀ b, 1 ≤ b → b ≤ 40 → nkOk b (nkOf b) = true
  | 1, _, _ => nko1
  | 2, _, _ => nko2
  | 3, _, _ => nko3
  | 4, _, _ => nko4
  | 5, _, _ => nko5
  | 6, _, _ => nko6
  | 7, _, _ => nko7
  | 8, _, _ => nko8
  | 9, _, _ => nko9
  | 10, _, _ => nko10
  | 11, _, _ => nko11
  | 12, _, _ => nko12
  | 13, _, _ => nko13
  | 14, _, _ => nko14
  | 15, _, _ => nko15
  | 16, _, _ => nko16
  | 17, _, _ => nko17
  | 18, _, _ => nko18
  | 19, _, _ => nko19
  | 20, _, _ => nko20
  | 21, _, _ => nko21
  | 22, _, _ => nko22
  | 23, _, _ => nko23
  | 24, _, _ => nko24
  | 25, _, _ => nko25
  | 26, _, _ => nko26
  | 27, _, _ => nko27
  | 28, _, _ => nko28
  | 29, _, _ => nko29
  | 30, _, _ => nko30
  | 31, _, _ => nko31
  | 32, _, _ => nko32
  | 33, _, _ => nko33
  | 34, _, _ => nko34
  | 35, _, _ => nko35
  | 36, _, _ => nko36
  | 37, _, _ => nko37
  | 38, _, _ => nko38
  | 39, _, _ => nko39
  | 40, _, _ => nko40
  | 0, h, _ => absurd h (by decide)
  | n + 41, _, h => absurd h (by omega)
theorem part_scale (c : Int) (ds : List Int) (i : Nat) : ∀ k, part (ds.map (c * ·)) i k = c * part ds i k
  | 0 => (Int.mul_zero c).symm
  | k + 1 => by
    show part (ds.map (c * ·)) i k + (if (i + 1) % (k + 1) = 0 then ((k + 1 : Nat) : Int) * (ds.map (c * ·)).getD k 0 else 0) = c * (part ds i k + (if (i + 1) % (k + 1) = 0 then ((k + 1 : Nat) : Int) * ds.getD k 0 else 0))
    have e : (ds.map (c * ·)).getD k 0 = c * ds.getD k 0 := by
      rw [List.getD_eq_getElem?_getD, List.getD_eq_getElem?_getD, List.getElem?_map]
      cases ds[k]? with
      | none => exact (Int.mul_zero c).symm
      | some x => rfl
    rw [part_scale c ds i k, e, Int.mul_add]
    by_cases d : (i + 1) % (k + 1) = 0
    · rw [if_pos d, if_pos d, Int.mul_left_comm]
    · rw [if_neg d, if_neg d, Int.mul_zero]
theorem pow_row {c b : Int} (c0 : 0 ≤ c) (b0 : 1 ≤ b) (b1 : b ≤ 40) : ∃ ds : List Int, ds.length = 45 ∧ (∀ x ∈ ds, 0 ≤ x) ∧ ruv [⟨0, c, b⟩] 45 = rowL ds := by
  obtain ⟨n, rfl⟩ : ∃ n : Nat, b = (n : Int) := ⟨b.toNat, by omega⟩
  have ok := nk_ok n (by omega) (by omega)
  unfold nkOk at ok
  rw [Bool.and_eq_true, Bool.and_eq_true] at ok
  obtain ⟨⟨h1, h2⟩, h3⟩ := ok
  have h1 := of_decide_eq_true h1
  refine ⟨(nkOf n).map (c * ·), by rw [List.length_map]; exact h1, fun x hx => ?_, ?_⟩
  · obtain ⟨y, hy, rfl⟩ := List.mem_map.mp hx
    exact Int.mul_nonneg c0 (of_decide_eq_true (List.all_eq_true.mp h2 y hy))
  · unfold ruv rowL
    rw [List.length_map, h1]
    refine tab_congr fun i hi => ?_
    have h4 := of_decide_eq_true (List.all_eq_true.mp h3 i (List.mem_range.mpr hi))
    rw [part_scale, h4]
    show c * (n : Int) ^ (i + 1) + 0 = _
    rw [Int.add_zero, Int.natCast_pow]
section
variable {K : PySem.W.Frag} {σ : L2.St} {H : Hp} {ta tb te tl : TE} {t : TA} {D : Ends} {tu tz : TS} {a : Addr} {n d d1 d2 : Nat} {P : V → Prop}
theorem qw_forWL {P : List V → Prop} {j : Nat} (h : EvWL a d tl σ H P) (w : Well H a n) (l : n + d ≤ 2 ^ 50) (Pv : Addr → List V → Nat → L2.St → Hp → Prop) (h0 : ∀ p xs H1, H p = none → But a H H1 → Well H1 a (n + d) → H1 p = some (.lst xs) → P xs → Pv p xs 0 σ H1)
    (hl : ∀ p xs i σ' H', i ≤ xs.length → Pv p xs i σ' H' → SqL K H' p xs)
    (hs : ∀ p xs i x σ' H', xs[i]? = some x → Pv p xs i σ' H' → tu { D with nx := Pv p xs (i + 1), ct := Pv p xs (i + 1), bk := tz D } (σ'.set j (some x)) H') (hd : ∀ p xs σ' H', Pv p xs xs.length σ' H' → tz D σ' H') : tSeq (tFor (iList K tl) (gName j) tu) tz D σ H :=
  h n H (But.refl a H) w l _ fun p xs H1 hp b h1 g px => ⟨p, rfl, ⟨xs, sq_of g⟩, for_list (D := { D with nx := tz D }) (Pv p xs) (h0 p xs H1 hp b h1 g px) (hl p xs) (fun i x σ' H' hx k => hs p xs i x σ' H' hx k) (hd p xs)⟩
theorem ep_callL {sp : Sp} {xs : List V} {E : XK} {P : V → Hp → Prop} (h : EvL te σ H xs) (hs : ∀ p H1, Ex H H1 → H1 p = some (.lst xs) → SpP sp [.ref p] H1 P) : EvP (tCall sp [] E (tCons te tNil)) σ H P := fun H1 e Q q =>
  h H1 e _ fun p H2 hp e2 g => hs p H2 (e.trans e2) g H2 (Ex.refl H2) Q (fun v H3 e3 pv => q v H3 (e2.trans e3) pv) E
end

section
variable {K : PySem.W.Frag} {σ : L2.St} {H : Hp} {ta tb te tl : TE} {t : TA} {D : Ends} {tu tz : TS} {a : Addr} {n d d1 d2 : Nat}
theorem q_methS {p C dx : Addr} {fs : List (Str × V)} {m : Str} {vs : List V} {sp : Sp} {E : L2.St → XK} (h : Ev ta σ H (.ref p)) (hp : H p = some (.ins C dx fs)) (l : fs.lookup m = none) (ha : EvA t σ H vs) (k : ∀ H1, Ex H H1 → sp (.ref p :: vs) H1 (fun _ H2 => tz D σ H2) (E σ)) : tSeq (tDrop (tMethS C m sp E ta t)) tz D σ H :=
  s_methS (D := { D with nx := tz D }) h hp l ha k
theorem el_cat2 {xs ys : List V} (ha : EvL ta σ H xs) (hb : EvL tb σ H ys) (hz : xs.length + ys.length ≤ 100000) : EvL (tOp rCat ta tb) σ H (xs ++ ys) := fun H1 e Q k =>
  ha H1 e _ fun p H2 hp e2 g2 => hb H2 (e.trans e2) _ fun q H3 hq e3 g3 => (el_catPP (σ := σ) (ta := fun _ H Q => Q (.ref p) H) (tb := fun _ H Q => Q (.ref q) H) (fun H4 e4 Q q => q H4 (Ex.refl H4)) (fun H4 e4 Q q => q H4 (Ex.refl H4)) (e3 _ _ g2) g3 hz) H3 (Ex.refl H3) Q fun r H4 hr e4 g4 => k r H4 (fresh_back (e2.trans e3) hr) ((e2.trans e3).trans e4) g4
theorem dp_hol3 {H : Hp} {v : V} {f st : Int} (h : HolV (some (f, st, none)) v H) : Dp K H v (.tuple [.int f, .int st, .none]) := by
  obtain ⟨p, rfl, g⟩ := h
  exact .tup (st_of g) (.cons (.int _) (.cons (.int _) (.cons .non .nil)))
theorem hol3_sh (f st : Int) : SeqAt.shaped (.tuple [.int f, .int st, .none]) = true := by
  simp [SeqAt.shaped, PyData.canLay0, PyData.canLayAll0, PyData.depth, PyData.depthAll]
theorem hol3_eqv (f st : Int) : PyData.eqv (.tuple [.int f, .int st, .none]) (.tuple [.int f, .int st, .none]) = true := by
  simp [PyData.eqv, PyData.eqvAll]
theorem ev_neHol {f st : Int} (ha : EvP ta σ H (HolV (some (f, st, none)))) (hb : EvU tb σ H [.int f, .int st, .non]) : Ev (tOp (rNeD K) ta tb) σ H (.bl false) := fun H1 e Q k =>
  ha H1 e _ fun v H2 e2 hv => hb H2 (e.trans e2) _ fun q H3 hq e3 g3 => ⟨_, _, dp_hol3 (HolV.ex hv e3), dp_hol3 (f := f) (st := st) ⟨q, rfl, g3⟩, hol3_sh f st, hol3_sh f st, by
    rw [hol3_eqv]
    exact k H3 (e2.trans e3)⟩
theorem well_lst {H : Hp} {a : Addr} {n : Nat} (w : Well H a n) : ∃ xs, H a = some (.lst xs) := by
  obtain ⟨x, y, c, q1, q2⟩ := w
  exact ⟨_, q1⟩
theorem Well.off {H H' : Hp} {a : Addr} {n : Nat} {S : List Addr} (w : Well H a n) (o : Off S H H') (h : a ∉ S) : Well H' a n := by
  obtain ⟨x, y, c, q1, q2⟩ := w
  exact ⟨x, y, c, o _ _ h q1, q2⟩
theorem it_last (r : List Int) : itV (r ++ [0]) r.length = vi r ++ [.non] := by
  unfold itV
  rw [← vi_app, List.set_append_right _ _ (by rw [List.length_map]; omega), List.length_map, Nat.sub_self]
  rfl
/-- evaluated to x, what is behind it has R -/
def EvX (te : TE) (σ : L2.St) (H : Hp) (x : V) (R : Hp → Prop) : Prop := ∀ Q : VK, (∀ H', R H' → Q x H') → te σ H Q
theorem s_whenX {te : TE} {σ : L2.St} {R : Hp → Prop} {tu : TS} {D : Ends} (h : EvX te σ H (.bl false) R) (k : ∀ H', R H' → D.nx σ H') : tIfS (tTest te) tu tNext D σ H := h _ fun H' r => ⟨false, rfl, iteF (k H' r)⟩
theorem x_op {r : R2} {x y z : V} {σ : L2.St} {R : Hp → Prop} (h : EvX ta σ H x R) (h2 : ∀ H', R H' → Ev tb σ H' y) (h3 : ∀ H', RV r x y H' z) (m : ∀ H1 H2, R H1 → Ex H1 H2 → R H2) : EvX (tOp r ta tb) σ H z R := fun Q q => h _ fun H' hr => h2 H' hr H' (Ex.refl H') _ fun H2 e2 => h3 H2 H2 (Ex.refl H2) Q fun H3 e3 => q H3 (m _ _ hr (e2.trans e3))
theorem x_ne {i : Int} {H : Hp} : RV rNe (.int i) (.int i) H (.bl false) := by
  have h : RV rNe (V.int i) (V.int i) H (.bl (!decide (V.int i = V.int i))) := rv_ne rfl
  rwa [decide_eq_true rfl] at h
/-- o.m(..) with an item that draws -/
theorem qw_meth {p C dx : Addr} {fs : List (Str × V)} {m : Str} {sp : Sp} {E : XK} {σ : L2.St} {PV : V → Prop} (h : Ev ta σ H (.ref p)) (hp : H p = some (.ins C dx fs)) (l : fs.lookup m = none) (ha : EvW a d te σ H PV) (w : Well H a n) (hl : n + d ≤ 2 ^ 50) (k : ∀ v H1, But a H H1 → Well H1 a (n + d) → PV v → sp [.ref p, v] H1 (fun _ H2 => D.nx σ H2) E) : tDrop (tMeth C m sp [] E ta (tCons te tNil)) D σ H :=
  h H (Ex.refl H) _ fun H2 e2 => ⟨p, dx, fs, rfl, e2 _ _ hp, l, ha n H2 (But.ex e2) (w.ex e2) hl _ fun v H3 b3 w3 pv => k v H3 ((But.ex e2).trans b3) w3 pv⟩
theorem q_parOWL {C : Addr} {σ : L2.St} {i j : Nat} {PL : List V → Prop} (h1 : EvO C ta σ H) (h2 : EvWL a d tb σ H PL) (w : Well H a n) (hl : n + d ≤ 2 ^ 50)
    (k : ∀ p l1 l2 b xs H1, H p = none → H l1 = none → H l2 = none → But a H H1 → Well H1 a (n + d) → Liv C H1 p l1 l2 [] → H1 b = some (.lst xs) → PL xs → b ≠ l1 → b ≠ l2 → tz D ((σ.set i (some (.ref p))).set j (some (.ref b))) H1) :
    tSeq (tPar i j (tCons ta (tCons tb tNil))) tz D σ H := h1 H (Ex.refl H) _ fun p l1 l2 H2 a1 a2 a3 e2 L => h2 n H2 (But.ex e2) (w.ex e2) hl _ fun b xs H3 hb b3 w3 g3 px => by
  obtain ⟨ys, ga⟩ := well_lst w
  have np : p ≠ a := fun z => by rw [z, ga] at a1; cases a1
  have n1 : l1 ≠ a := fun z => by rw [z, ga] at a2; cases a2
  have n2 : l2 ≠ a := fun z => by rw [z, ga] at a3; cases a3
  exact ⟨_, _, rfl, k p l1 l2 b xs H3 a1 a2 a3 ((But.ex e2).trans b3) w3 (L.off (Off.but b3 (S := [a]) (by simp)) (by simp [np]) (by simp [n1]) (by simp [n2])) g3 px (ne_of_none L.2.1 hb).symm (ne_of_none L.2.2.1 hb).symm⟩
theorem ewl_told {sp : Sp} {E : XK} {σ : L2.St} {tn : TE} {PU PL : List V → Prop} {m : Int} (h : EvWU a d te σ H PU) (hm : ∀ H1, Ev tn σ H1 (.int m)) (hs : ∀ p t xs H1, H1 p = some (.lst [.ref t]) → H1 t = some (.tup xs) → PU xs → ∃ ys, PL ys ∧ SpL sp [.ref p, .int m] H1 ys) : EvWL a d (tCall sp [] E (tCons (tLst (tCons te tNil)) (tCons tn tNil))) σ H PL := fun n H1 b w l Q q =>
  h n H1 b w l _ fun t xs H2 ht b2 w2 g2 pu => ⟨sz_of (by show 1 ≤ 100000; decide), fun p hp => (hm _) _ (Ex.refl _) _ fun H3 e3 => by
    have gp : upd H2 p (.lst [.ref t]) p = some (.lst [.ref t]) := upd_same
    have gt := Ex.new (o := .lst [.ref t]) hp _ _ g2
    obtain ⟨ys, py, hS⟩ := hs p t xs H3 (e3 _ _ gp) (e3 _ _ gt) pu
    have en := (Ex.new (o := .lst [.ref t]) hp).trans e3
    exact hS H3 (Ex.refl H3) Q (fun r H4 hr e4 g4 => q r ys H4 (but_free b2 w2 (fresh_back en hr)) (b2.trans (But.ex (en.trans e4))) (w2.ex (en.trans e4)) g4 py) E⟩
theorem bool_ne_same {H : Hp} (b : Bool) : RV rNe (.bl b) (.bl b) H (.bl false) := by
  have h : RV rNe (V.bl b) (V.bl b) H (.bl (!decide (V.bl b = V.bl b))) := rv_ne rfl
  rwa [decide_eq_true rfl] at h
end

end My
namespace My
open PySem PySem.Spec PyProof.Rows L2 Evl Bk

def topS (i : Nat) : Stmt := PySem.Challenge.pw_backafter_k76_whole_live_rows_beside_fun.main.body.getD i (.Pass ⟨0, 0, 0, 0⟩)
abbrev s_is_whole : Stmt := topS 20
theorem sc_is_whole : FnScope ["value"] ["value"] (defScope s_is_whole) := ⟨rfl, rfl, rfl, by decide +kernel, rfl, by decide +kernel, by decide +kernel⟩
abbrev s_Live_init : Stmt := inClass (topS 29) 0
theorem sc_Live_init : FnScope ["self"] ["self"] (defScope s_Live_init) := ⟨rfl, rfl, rfl, by decide +kernel, rfl, by decide +kernel, by decide +kernel⟩
abbrev s_Live_coming : Stmt := inClass (topS 29) 4
theorem sc_Live_coming : FnScope ["self", "n", "least", "d", "count"] ["self"] (defScope s_Live_coming) := ⟨rfl, rfl, rfl, by decide +kernel, rfl, by decide +kernel, by decide +kernel⟩
abbrev s_Live_row : Stmt := inClass (topS 29) 5
theorem sc_Live_row : FnScope ["self"] ["self"] (defScope s_Live_row) := ⟨rfl, rfl, rfl, by decide +kernel, rfl, by decide +kernel, by decide +kernel⟩
abbrev s_Live_rings : Stmt := inClass (topS 29) 6
theorem sc_Live_rings : FnScope ["self"] ["self"] (defScope s_Live_rings) := ⟨rfl, rfl, rfl, by decide +kernel, rfl, by decide +kernel, by decide +kernel⟩
abbrev s_Live_len : Stmt := inClass (topS 29) 7
theorem sc_Live_len : FnScope ["self"] ["self"] (defScope s_Live_len) := ⟨rfl, rfl, rfl, by decide +kernel, rfl, by decide +kernel, by decide +kernel⟩
abbrev s_Live_things : Stmt := inClass (topS 29) 9
theorem sc_Live_things : FnScope ["self", "n", "count"] ["self"] (defScope s_Live_things) := ⟨rfl, rfl, rfl, by decide +kernel, rfl, by decide +kernel, by decide +kernel⟩
abbrev s_Live_put : Stmt := inClass (topS 29) 11
theorem sc_Live_put : FnScope ["self", "number", "count"] ["self", "number", "count"] (defScope s_Live_put) := ⟨rfl, rfl, rfl, by decide +kernel, rfl, by decide +kernel, by decide +kernel⟩
abbrev s_to_power : Stmt := topS 31
theorem sc_to_power : FnScope ["base", "power", "found", "square", "rest"] ["base", "power"] (defScope s_to_power) := ⟨rfl, rfl, rfl, by decide +kernel, rfl, by decide +kernel, by decide +kernel⟩
abbrev s_first_with_rest : Stmt := topS 39
theorem sc_first_with_rest : FnScope ["start", "step", "rest", "n", "k"] ["start", "step", "rest", "n"] (defScope s_first_with_rest) := ⟨rfl, rfl, rfl, by decide +kernel, rfl, by decide +kernel, by decide +kernel⟩
abbrev s_powers : Stmt := topS 44
theorem sc_powers : FnScope ["count", "base", "many", "found", "number", "_"] ["count", "base", "many"] (defScope s_powers) := ⟨rfl, rfl, rfl, by decide +kernel, rfl, by decide +kernel, by decide +kernel⟩
abbrev s_check_things : Stmt := topS 50
theorem sc_check_things : FnScope ["many"] ["many"] (defScope s_check_things) := ⟨rfl, rfl, rfl, by decide +kernel, rfl, by decide +kernel, by decide +kernel⟩
abbrev s_law_draw : Stmt := topS 53
theorem sc_law_draw : FnScope ["well", "many", "found", "stirred"] ["well", "many"] (defScope s_law_draw) := ⟨rfl, rfl, rfl, by decide +kernel, rfl, by decide +kernel, by decide +kernel⟩
abbrev s_is_from_to : Stmt := topS 21
theorem sc_is_from_to : FnScope ["value", "least", "most"] ["value", "least", "most"] (defScope s_is_from_to) := ⟨rfl, rfl, rfl, by decide +kernel, rfl, by decide +kernel, by decide +kernel⟩
abbrev s_common_rest : Stmt := topS 38
theorem sc_common_rest : FnScope ["fixed", "shares", "rest", "step", "n", "new", "share"] ["fixed", "shares"] (defScope s_common_rest) := ⟨rfl, rfl, rfl, by decide +kernel, rfl, by decide +kernel, by decide +kernel⟩
abbrev s_numbers_of_term : Stmt := topS 43
theorem sc_numbers_of_term : FnScope ["term", "many", "kind", "count", "size", "n"] ["term", "many"] (defScope s_numbers_of_term) := ⟨rfl, rfl, rfl, by decide +kernel, rfl, by decide +kernel, by decide +kernel⟩
abbrev s_check_row : Stmt := topS 22
theorem sc_check_row : FnScope ["row", "number"] ["row"] (defScope s_check_row) := ⟨rfl, rfl, rfl, by decide +kernel, rfl, by decide +kernel, by decide +kernel⟩
abbrev s_check_counts : Stmt := topS 23
theorem sc_check_counts : FnScope ["counts", "index", "count"] ["counts"] (defScope s_check_counts) := ⟨rfl, rfl, rfl, by decide +kernel, rfl, by decide +kernel, by decide +kernel⟩
abbrev s_check_shuffle : Stmt := topS 24
theorem sc_check_shuffle : FnScope ["shuffle", "place"] ["shuffle"] (defScope s_check_shuffle) := ⟨rfl, rfl, rfl, by decide +kernel, rfl, by decide +kernel, by decide +kernel⟩
abbrev s_check_many : Stmt := topS 25
theorem sc_check_many : FnScope ["many"] ["many"] (defScope s_check_many) := ⟨rfl, rfl, rfl, by decide +kernel, rfl, by decide +kernel, by decide +kernel⟩
abbrev s_is_term : Stmt := topS 26
theorem sc_is_term : FnScope ["value", "kind", "count", "size", "name", "least", "most"] ["value"] (defScope s_is_term) := ⟨rfl, rfl, rfl, by decide +kernel, rfl, by decide +kernel, by decide +kernel⟩
abbrev s_Live_may_come : Stmt := inClass (topS 29) 10
theorem sc_Live_may_come : FnScope ["self", "number", "least", "step"] ["self", "number"] (defScope s_Live_may_come) := ⟨rfl, rfl, rfl, by decide +kernel, rfl, by decide +kernel, by decide +kernel⟩
abbrev s_check_hole : Stmt := topS 37
theorem sc_check_hole : FnScope ["items", "numbers", "item", "number"] ["items"] (defScope s_check_hole) := ⟨rfl, rfl, rfl, by decide +kernel, rfl, by decide +kernel, by decide +kernel⟩
abbrev s_numbers : Stmt := topS 42
theorem sc_numbers : FnScope ["rule", "many", "row", "term", "number", "more"] ["rule", "many"] (defScope s_numbers) := ⟨rfl, rfl, rfl, by decide +kernel, rfl, by decide +kernel, by decide +kernel⟩
abbrev s_rings_in : Stmt := topS 49
theorem sc_rings_in : FnScope ["shuffle", "found", "seen", "first", "ring", "place"] ["shuffle"] (defScope s_rings_in) := ⟨rfl, rfl, rfl, by decide +kernel, rfl, by decide +kernel, by decide +kernel⟩
abbrev s_law_well : Stmt := topS 52
theorem sc_law_well : FnScope ["script", "k", "cell"] ["script", "k"] (defScope s_law_well) := ⟨rfl, rfl, rfl, by decide +kernel, rfl, by decide +kernel, by decide +kernel⟩
abbrev s_check_rule : Stmt := topS 27
theorem sc_check_rule : FnScope ["rule", "index", "term"] ["rule"] (defScope s_check_rule) := ⟨rfl, rfl, rfl, by decide +kernel, rfl, by decide +kernel, by decide +kernel⟩
abbrev s_Live_lay : Stmt := inClass (topS 29) 2
theorem sc_Live_lay : FnScope ["self", "count", "least", "step"] ["self", "count"] (defScope s_Live_lay) := ⟨rfl, rfl, rfl, by decide +kernel, rfl, by decide +kernel, by decide +kernel⟩
abbrev s_Live_undo : Stmt := inClass (topS 29) 3
theorem sc_Live_undo : FnScope ["self"] ["self"] (defScope s_Live_undo) := ⟨rfl, rfl, rfl, by decide +kernel, rfl, by decide +kernel, by decide +kernel⟩
abbrev s_new_numbers : Stmt := topS 33
theorem sc_new_numbers : FnScope ["row", "many", "new", "n", "multiple"] ["row"] (defScope s_new_numbers) := ⟨rfl, rfl, rfl, by decide +kernel, rfl, by decide +kernel, by decide +kernel⟩
abbrev s_lengths : Stmt := topS 47
theorem sc_lengths : FnScope ["shuffle", "ring"] ["shuffle"] (defScope s_lengths) := ⟨rfl, rfl, rfl, by decide +kernel, rfl, by decide +kernel, by decide +kernel⟩
abbrev s_shuffle_of : Stmt := topS 48
theorem sc_shuffle_of : FnScope ["counts", "found", "n", "count", "_", "first", "k"] ["counts"] (defScope s_shuffle_of) := ⟨rfl, rfl, rfl, by decide +kernel, rfl, by decide +kernel, by decide +kernel⟩
abbrev s_Live_tell : Stmt := inClass (topS 29) 1
theorem sc_Live_tell : FnScope ["self", "number", "least", "step"] ["self", "number"] (defScope s_Live_tell) := ⟨rfl, rfl, rfl, by decide +kernel, rfl, by decide +kernel, by decide +kernel⟩
abbrev s_Live_contains : Stmt := inClass (topS 29) 8
theorem sc_Live_contains : FnScope ["self", "value"] ["self", "value"] (defScope s_Live_contains) := ⟨rfl, rfl, rfl, by decide +kernel, rfl, by decide +kernel, by decide +kernel⟩
abbrev s_first_bar : Stmt := topS 34
theorem sc_first_bar : FnScope ["row", "n", "new"] ["row"] (defScope s_first_bar) := ⟨rfl, rfl, rfl, by decide +kernel, rfl, by decide +kernel, by decide +kernel⟩
abbrev s_hole : Stmt := topS 36
theorem sc_hole : FnScope ["items", "fixed", "shares", "common", "rest", "step", "least", "first", "tops", "most", "last", "item", "new", "share"] ["items"] (defScope s_hole) := ⟨rfl, rfl, rfl, by decide +kernel, rfl, by decide +kernel, by decide +kernel⟩
abbrev s_told : Stmt := topS 41
theorem sc_told : FnScope ["rule", "many"] ["rule", "many"] (defScope s_told) := ⟨rfl, rfl, rfl, by decide +kernel, rfl, by decide +kernel, by decide +kernel⟩
abbrev s_back_row : Stmt := topS 46
theorem sc_back_row : FnScope ["shuffle", "many", "found", "n", "length"] ["shuffle", "many"] (defScope s_back_row) := ⟨rfl, rfl, rfl, by decide +kernel, rfl, by decide +kernel, by decide +kernel⟩
abbrev s_rings : Stmt := topS 35
theorem sc_rings : FnScope ["row", "bar", "n", "new"] ["row"] (defScope s_rings) := ⟨rfl, rfl, rfl, by decide +kernel, rfl, by decide +kernel, by decide +kernel⟩
abbrev s_law_shuffle_right : Stmt := topS 56
theorem sc_law_shuffle_right : FnScope ["live", "deck"] ["live"] (defScope s_law_shuffle_right) := ⟨rfl, rfl, rfl, by decide +kernel, rfl, by decide +kernel, by decide +kernel⟩
abbrev s_law_barred_at : Stmt := topS 54
theorem sc_law_barred_at : FnScope ["live", "more", "found", "e"] ["live", "more"] (defScope s_law_barred_at) := ⟨rfl, rfl, rfl, by decide +kernel, rfl, by decide +kernel, by decide +kernel⟩
abbrev s_law_great_right : Stmt := topS 58
theorem sc_law_great_right : FnScope ["well", "base", "great", "numbers", "number"] ["well"] (defScope s_law_great_right) := ⟨rfl, rfl, rfl, by decide +kernel, rfl, by decide +kernel, by decide +kernel⟩
abbrev s_law_next_right : Stmt := topS 55
theorem sc_law_next_right : FnScope ["well", "live", "least", "step", "off", "bar"] ["well", "live"] (defScope s_law_next_right) := ⟨rfl, rfl, rfl, by decide +kernel, rfl, by decide +kernel, by decide +kernel⟩
abbrev s_law_right : Stmt := topS 57
theorem sc_law_right : FnScope ["well", "live", "turn", "least", "step"] ["well"] (defScope s_law_right) := ⟨rfl, rfl, rfl, by decide +kernel, rfl, by decide +kernel, by decide +kernel⟩
abbrev s_law : Stmt := topS 59
theorem sc_law : FnScope ["script", "k"] ["script"] (defScope s_law) := ⟨rfl, rfl, rfl, by decide +kernel, rfl, by decide +kernel, by decide +kernel⟩
abbrev PP : Program := PySem.Challenge.rw_backafter_k76_whole_live_rows_beside_fun.prog
abbrev c_Barred : Stmt := clsDef (topS 11) 0
theorem ss_Barred : SupS "n" (defScope c_Barred) := ⟨rfl, rfl, rfl, by decide +kernel, by decide +kernel, by decide +kernel, by decide +kernel, by decide +kernel, by decide +kernel, by decide, by decide, by decide⟩
/-- where the defs of the text stand behind the top -/
structure Txt (K : PySem.W.Frag) (mg : Str → Option Value) where
  a_Live : Addr
  cl_Live : Cls K a_Live
  g_Live : mg "Live" = some (.ref a_Live)
  n_Live_counts : NoAttr K a_Live "_counts"
  n_Live_numbers : NoAttr K a_Live "_numbers"
  a_is_whole : Addr
  d_is_whole : FuncData
  F_is_whole : Fun K "is_whole" "is_whole" s_is_whole a_is_whole d_is_whole
  g_is_whole : mg "is_whole" = some (.ref a_is_whole)
  a_Live_init : Addr
  d_Live_init : FuncData
  F_Live_init : Fun K "__init__" "Live.__init__" s_Live_init a_Live_init d_Live_init
  m_Live_init : Meth K a_Live "__init__" a_Live_init
  k_Live : Mk K a_Live a_Live_init
  a_Live_coming : Addr
  d_Live_coming : FuncData
  F_Live_coming : Fun K "coming" "Live.coming" s_Live_coming a_Live_coming d_Live_coming
  m_Live_coming : Meth K a_Live "coming" a_Live_coming
  a_Live_row : Addr
  d_Live_row : FuncData
  F_Live_row : Fun K "row" "Live.row" s_Live_row a_Live_row d_Live_row
  m_Live_row : Meth K a_Live "row" a_Live_row
  a_Live_rings : Addr
  d_Live_rings : FuncData
  F_Live_rings : Fun K "rings" "Live.rings" s_Live_rings a_Live_rings d_Live_rings
  m_Live_rings : Meth K a_Live "rings" a_Live_rings
  a_Live_len : Addr
  d_Live_len : FuncData
  F_Live_len : Fun K "__len__" "Live.__len__" s_Live_len a_Live_len d_Live_len
  m_Live_len : Meth K a_Live "__len__" a_Live_len
  a_Live_things : Addr
  d_Live_things : FuncData
  F_Live_things : Fun K "things" "Live.things" s_Live_things a_Live_things d_Live_things
  pa_Live_things : Addr
  p_Live_things : PropOf K a_Live "things" pa_Live_things a_Live_things
  a_Live_put : Addr
  d_Live_put : FuncData
  F_Live_put : Fun K "_put" "Live._put" s_Live_put a_Live_put d_Live_put
  m_Live_put : Meth K a_Live "_put" a_Live_put
  a_to_power : Addr
  d_to_power : FuncData
  F_to_power : Fun K "to_power" "to_power" s_to_power a_to_power d_to_power
  g_to_power : mg "to_power" = some (.ref a_to_power)
  a_first_with_rest : Addr
  d_first_with_rest : FuncData
  F_first_with_rest : Fun K "_first_with_rest" "_first_with_rest" s_first_with_rest a_first_with_rest d_first_with_rest
  g_first_with_rest : mg "_first_with_rest" = some (.ref a_first_with_rest)
  a_powers : Addr
  d_powers : FuncData
  F_powers : Fun K "_powers" "_powers" s_powers a_powers d_powers
  g_powers : mg "_powers" = some (.ref a_powers)
  a_check_things : Addr
  d_check_things : FuncData
  F_check_things : Fun K "_check_things" "_check_things" s_check_things a_check_things d_check_things
  g_check_things : mg "_check_things" = some (.ref a_check_things)
  a_law_draw : Addr
  d_law_draw : FuncData
  F_law_draw : Fun K "_law_draw" "_law_draw" s_law_draw a_law_draw d_law_draw
  g_law_draw : mg "_law_draw" = some (.ref a_law_draw)
  a_is_from_to : Addr
  d_is_from_to : FuncData
  F_is_from_to : Fun K "is_from_to" "is_from_to" s_is_from_to a_is_from_to d_is_from_to
  g_is_from_to : mg "is_from_to" = some (.ref a_is_from_to)
  a_common_rest : Addr
  d_common_rest : FuncData
  F_common_rest : Fun K "_common_rest" "_common_rest" s_common_rest a_common_rest d_common_rest
  g_common_rest : mg "_common_rest" = some (.ref a_common_rest)
  a_numbers_of_term : Addr
  d_numbers_of_term : FuncData
  F_numbers_of_term : Fun K "_numbers_of_term" "_numbers_of_term" s_numbers_of_term a_numbers_of_term d_numbers_of_term
  g_numbers_of_term : mg "_numbers_of_term" = some (.ref a_numbers_of_term)
  a_check_row : Addr
  d_check_row : FuncData
  F_check_row : Fun K "check_row" "check_row" s_check_row a_check_row d_check_row
  g_check_row : mg "check_row" = some (.ref a_check_row)
  a_check_counts : Addr
  d_check_counts : FuncData
  F_check_counts : Fun K "check_counts" "check_counts" s_check_counts a_check_counts d_check_counts
  g_check_counts : mg "check_counts" = some (.ref a_check_counts)
  a_check_shuffle : Addr
  d_check_shuffle : FuncData
  F_check_shuffle : Fun K "check_shuffle" "check_shuffle" s_check_shuffle a_check_shuffle d_check_shuffle
  g_check_shuffle : mg "check_shuffle" = some (.ref a_check_shuffle)
  a_check_many : Addr
  d_check_many : FuncData
  F_check_many : Fun K "check_many" "check_many" s_check_many a_check_many d_check_many
  g_check_many : mg "check_many" = some (.ref a_check_many)
  a_is_term : Addr
  d_is_term : FuncData
  F_is_term : Fun K "is_term" "is_term" s_is_term a_is_term d_is_term
  g_is_term : mg "is_term" = some (.ref a_is_term)
  a_Live_may_come : Addr
  d_Live_may_come : FuncData
  F_Live_may_come : Fun K "_may_come" "Live._may_come" s_Live_may_come a_Live_may_come d_Live_may_come
  m_Live_may_come : Meth K a_Live "_may_come" a_Live_may_come
  a_check_hole : Addr
  d_check_hole : FuncData
  F_check_hole : Fun K "_check_hole" "_check_hole" s_check_hole a_check_hole d_check_hole
  g_check_hole : mg "_check_hole" = some (.ref a_check_hole)
  a_numbers : Addr
  d_numbers : FuncData
  F_numbers : Fun K "_numbers" "_numbers" s_numbers a_numbers d_numbers
  g_numbers : mg "_numbers" = some (.ref a_numbers)
  a_rings_in : Addr
  d_rings_in : FuncData
  F_rings_in : Fun K "_rings_in" "_rings_in" s_rings_in a_rings_in d_rings_in
  g_rings_in : mg "_rings_in" = some (.ref a_rings_in)
  a_law_well : Addr
  d_law_well : FuncData
  F_law_well : Fun K "_law_well" "_law_well" s_law_well a_law_well d_law_well
  g_law_well : mg "_law_well" = some (.ref a_law_well)
  a_check_rule : Addr
  d_check_rule : FuncData
  F_check_rule : Fun K "check_rule" "check_rule" s_check_rule a_check_rule d_check_rule
  g_check_rule : mg "check_rule" = some (.ref a_check_rule)
  a_Live_lay : Addr
  d_Live_lay : FuncData
  F_Live_lay : Fun K "lay" "Live.lay" s_Live_lay a_Live_lay d_Live_lay
  m_Live_lay : Meth K a_Live "lay" a_Live_lay
  a_Live_undo : Addr
  d_Live_undo : FuncData
  F_Live_undo : Fun K "undo" "Live.undo" s_Live_undo a_Live_undo d_Live_undo
  m_Live_undo : Meth K a_Live "undo" a_Live_undo
  a_new_numbers : Addr
  d_new_numbers : FuncData
  F_new_numbers : Fun K "new_numbers" "new_numbers" s_new_numbers a_new_numbers d_new_numbers
  g_new_numbers : mg "new_numbers" = some (.ref a_new_numbers)
  a_lengths : Addr
  d_lengths : FuncData
  F_lengths : Fun K "lengths" "lengths" s_lengths a_lengths d_lengths
  g_lengths : mg "lengths" = some (.ref a_lengths)
  a_shuffle_of : Addr
  d_shuffle_of : FuncData
  F_shuffle_of : Fun K "shuffle_of" "shuffle_of" s_shuffle_of a_shuffle_of d_shuffle_of
  g_shuffle_of : mg "shuffle_of" = some (.ref a_shuffle_of)
  a_Live_tell : Addr
  d_Live_tell : FuncData
  F_Live_tell : Fun K "tell" "Live.tell" s_Live_tell a_Live_tell d_Live_tell
  m_Live_tell : Meth K a_Live "tell" a_Live_tell
  a_Live_contains : Addr
  d_Live_contains : FuncData
  F_Live_contains : Fun K "__contains__" "Live.__contains__" s_Live_contains a_Live_contains d_Live_contains
  m_Live_contains : Meth K a_Live "__contains__" a_Live_contains
  a_first_bar : Addr
  d_first_bar : FuncData
  F_first_bar : Fun K "first_bar" "first_bar" s_first_bar a_first_bar d_first_bar
  g_first_bar : mg "first_bar" = some (.ref a_first_bar)
  a_hole : Addr
  d_hole : FuncData
  F_hole : Fun K "hole" "hole" s_hole a_hole d_hole
  g_hole : mg "hole" = some (.ref a_hole)
  a_told : Addr
  d_told : FuncData
  F_told : Fun K "told" "told" s_told a_told d_told
  g_told : mg "told" = some (.ref a_told)
  a_back_row : Addr
  d_back_row : FuncData
  F_back_row : Fun K "back_row" "back_row" s_back_row a_back_row d_back_row
  g_back_row : mg "back_row" = some (.ref a_back_row)
  a_rings : Addr
  d_rings : FuncData
  F_rings : Fun K "rings" "rings" s_rings a_rings d_rings
  g_rings : mg "rings" = some (.ref a_rings)
  a_law_shuffle_right : Addr
  d_law_shuffle_right : FuncData
  F_law_shuffle_right : Fun K "_law_shuffle_right" "_law_shuffle_right" s_law_shuffle_right a_law_shuffle_right d_law_shuffle_right
  g_law_shuffle_right : mg "_law_shuffle_right" = some (.ref a_law_shuffle_right)
  a_law_barred_at : Addr
  d_law_barred_at : FuncData
  F_law_barred_at : Fun K "_law_barred_at" "_law_barred_at" s_law_barred_at a_law_barred_at d_law_barred_at
  g_law_barred_at : mg "_law_barred_at" = some (.ref a_law_barred_at)
  a_law_great_right : Addr
  d_law_great_right : FuncData
  F_law_great_right : Fun K "_law_great_right" "_law_great_right" s_law_great_right a_law_great_right d_law_great_right
  g_law_great_right : mg "_law_great_right" = some (.ref a_law_great_right)
  a_law_next_right : Addr
  d_law_next_right : FuncData
  F_law_next_right : Fun K "_law_next_right" "_law_next_right" s_law_next_right a_law_next_right d_law_next_right
  g_law_next_right : mg "_law_next_right" = some (.ref a_law_next_right)
  a_law_right : Addr
  d_law_right : FuncData
  F_law_right : Fun K "_law_right" "_law_right" s_law_right a_law_right d_law_right
  g_law_right : mg "_law_right" = some (.ref a_law_right)
  a_law : Addr
  d_law : FuncData
  F_law : Fun K "law" "law" s_law a_law d_law
  g_law : mg "law" = some (.ref a_law)
  t_MOST_COUNT : Tok
  c_MOST_COUNT : mg "MOST_COUNT" = some (.int (1000000) t_MOST_COUNT)
  t_MOST_NUMBERS : Tok
  c_MOST_NUMBERS : mg "MOST_NUMBERS" = some (.int (300) t_MOST_NUMBERS)
  t_MOST_TERMS : Tok
  c_MOST_TERMS : mg "MOST_TERMS" = some (.int (12) t_MOST_TERMS)
  t_MOST_THINGS : Tok
  c_MOST_THINGS : mg "MOST_THINGS" = some (.int (300) t_MOST_THINGS)
  a_KINDS : Addr
  a_KINDS_0 : Addr
  a_KINDS_1 : Addr
  a_KINDS_2 : Addr
  g_KINDS : mg "KINDS" = some (.ref a_KINDS)
  q_KINDS : FrT K a_KINDS [.ref a_KINDS_0, .ref a_KINDS_1, .ref a_KINDS_2]
  q_KINDS_0 : FrT K a_KINDS_0 [.str "power", .int (-40), .int (40)]
  q_KINDS_1 : FrT K a_KINDS_1 [.str "ring", .int (1), .int (300)]
  q_KINDS_2 : FrT K a_KINDS_2 [.str "places", .int (1), .int (6)]
  z_abs : mg "abs" = none
  z_all : mg "all" = none
  z_any : mg "any" = none
  z_bool : mg "bool" = none
  z_enumerate : mg "enumerate" = none
  z_int : mg "int" = none
  z_isinstance : mg "isinstance" = none
  z_len : mg "len" = none
  z_list : mg "list" = none
  z_max : mg "max" = none
  z_min : mg "min" = none
  z_range : mg "range" = none
  z_sorted : mg "sorted" = none
  z_str : mg "str" = none
  z_sum : mg "sum" = none
  z_tuple : mg "tuple" = none
  z_zip : mg "zip" = none
  i_lcm : mg "lcm" = some (.builtin "math.lcm")
  a_Barred : Addr
  e_Barred : ErrK K mg "Barred" a_Barred
  a_NoCount : Addr
  e_NoCount : ErrK K mg "NoCount" a_NoCount
  x_NoCount : PySem.W.excIn K a_NoCount [.type "ValueError", .type "Exception", .type "BaseException", .type "object"] "ValueError.__new__" = true
  a_NoNumber : Addr
  e_NoNumber : ErrK K mg "NoNumber" a_NoNumber
  x_NoNumber : PySem.W.excIn K a_NoNumber [.type "ValueError", .type "Exception", .type "BaseException", .type "object"] "ValueError.__new__" = true
  a_NothingToUndo : Addr
  e_NothingToUndo : ErrK K mg "NothingToUndo" a_NothingToUndo
  x_NothingToUndo : PySem.W.excIn K a_NothingToUndo [.type "ValueError", .type "Exception", .type "BaseException", .type "object"] "ValueError.__new__" = true
  a_RowError : Addr
  e_RowError : ErrK K mg "RowError" a_RowError
  fi_Barred : Addr
  fd_Barred : FuncData
  s_Barred : SupC PP K mg a_Barred fi_Barred fd_Barred "n" c_Barred
  sb_Barred : Binds K fd_Barred ["self", "n"] []
  m_Barred_NoCount : PySem.W.subIn K (.ref a_Barred) (.ref a_NoCount) = some false
  m_Barred_NoNumber : PySem.W.subIn K (.ref a_Barred) (.ref a_NoNumber) = some false
  m_Barred_NothingToUndo : PySem.W.subIn K (.ref a_Barred) (.ref a_NothingToUndo) = some false
  m_Barred_RowError : PySem.W.subIn K (.ref a_Barred) (.ref a_RowError) = some true
  m_NoCount_Barred : PySem.W.subIn K (.ref a_NoCount) (.ref a_Barred) = some false
  m_NoCount_NoNumber : PySem.W.subIn K (.ref a_NoCount) (.ref a_NoNumber) = some false
  m_NoCount_NothingToUndo : PySem.W.subIn K (.ref a_NoCount) (.ref a_NothingToUndo) = some false
  m_NoCount_RowError : PySem.W.subIn K (.ref a_NoCount) (.ref a_RowError) = some true
  m_NoNumber_Barred : PySem.W.subIn K (.ref a_NoNumber) (.ref a_Barred) = some false
  m_NoNumber_NoCount : PySem.W.subIn K (.ref a_NoNumber) (.ref a_NoCount) = some false
  m_NoNumber_NothingToUndo : PySem.W.subIn K (.ref a_NoNumber) (.ref a_NothingToUndo) = some false
  m_NoNumber_RowError : PySem.W.subIn K (.ref a_NoNumber) (.ref a_RowError) = some true
  m_NothingToUndo_Barred : PySem.W.subIn K (.ref a_NothingToUndo) (.ref a_Barred) = some false
  m_NothingToUndo_NoCount : PySem.W.subIn K (.ref a_NothingToUndo) (.ref a_NoCount) = some false
  m_NothingToUndo_NoNumber : PySem.W.subIn K (.ref a_NothingToUndo) (.ref a_NoNumber) = some false
  m_NothingToUndo_RowError : PySem.W.subIn K (.ref a_NothingToUndo) (.ref a_RowError) = some true
section
variable {P : Program} {w : World} {K : PySem.W.Frag} {mg : Str → Option Value} {base : Heap}
theorem b_is_whole (T : Txt K mg) : Binds K T.d_is_whole ["value"] [] := T.F_is_whole.binds fun _ _ _ _ _ _ us hl => match us, hl with | [_], _ => rfl
theorem b_Live_init (T : Txt K mg) : Binds K T.d_Live_init ["self"] [] := T.F_Live_init.binds fun _ _ _ _ _ _ us hl => match us, hl with | [_], _ => rfl
theorem b_Live_coming (T : Txt K mg) : Binds K T.d_Live_coming ["self"] [] := T.F_Live_coming.binds fun _ _ _ _ _ _ us hl => match us, hl with | [_], _ => rfl
theorem b_Live_row (T : Txt K mg) : Binds K T.d_Live_row ["self"] [] := T.F_Live_row.binds fun _ _ _ _ _ _ us hl => match us, hl with | [_], _ => rfl
theorem b_Live_rings (T : Txt K mg) : Binds K T.d_Live_rings ["self"] [] := T.F_Live_rings.binds fun _ _ _ _ _ _ us hl => match us, hl with | [_], _ => rfl
theorem b_Live_len (T : Txt K mg) : Binds K T.d_Live_len ["self"] [] := T.F_Live_len.binds fun _ _ _ _ _ _ us hl => match us, hl with | [_], _ => rfl
theorem b_Live_things (T : Txt K mg) : Binds K T.d_Live_things ["self"] [] := T.F_Live_things.binds fun _ _ _ _ _ _ us hl => match us, hl with | [_], _ => rfl
theorem b_Live_put (T : Txt K mg) : Binds K T.d_Live_put ["self", "number", "count"] [] := T.F_Live_put.binds fun _ _ _ _ _ _ us hl => match us, hl with | [_, _, _], _ => rfl
theorem b_to_power (T : Txt K mg) : Binds K T.d_to_power ["base", "power"] [] := T.F_to_power.binds fun _ _ _ _ _ _ us hl => match us, hl with | [_, _], _ => rfl
theorem b_first_with_rest (T : Txt K mg) : Binds K T.d_first_with_rest ["start", "step", "rest", "n"] [] := T.F_first_with_rest.binds fun _ _ _ _ _ _ us hl => match us, hl with | [_, _, _, _], _ => rfl
theorem b_powers (T : Txt K mg) : Binds K T.d_powers ["count", "base", "many"] [] := T.F_powers.binds fun _ _ _ _ _ _ us hl => match us, hl with | [_, _, _], _ => rfl
theorem b_check_things (T : Txt K mg) : Binds K T.d_check_things ["many"] [] := T.F_check_things.binds fun _ _ _ _ _ _ us hl => match us, hl with | [_], _ => rfl
theorem b_law_draw (T : Txt K mg) : Binds K T.d_law_draw ["well", "many"] [] := T.F_law_draw.binds fun _ _ _ _ _ _ us hl => match us, hl with | [_, _], _ => rfl
theorem b_is_from_to (T : Txt K mg) : Binds K T.d_is_from_to ["value", "least", "most"] [] := T.F_is_from_to.binds fun _ _ _ _ _ _ us hl => match us, hl with | [_, _, _], _ => rfl
theorem b_common_rest (T : Txt K mg) : Binds K T.d_common_rest ["fixed", "shares"] [] := T.F_common_rest.binds fun _ _ _ _ _ _ us hl => match us, hl with | [_, _], _ => rfl
theorem b_numbers_of_term (T : Txt K mg) : Binds K T.d_numbers_of_term ["term", "many"] [] := T.F_numbers_of_term.binds fun _ _ _ _ _ _ us hl => match us, hl with | [_, _], _ => rfl
theorem b_check_row (T : Txt K mg) : Binds K T.d_check_row ["row"] [] := T.F_check_row.binds fun _ _ _ _ _ _ us hl => match us, hl with | [_], _ => rfl
theorem b_check_counts (T : Txt K mg) : Binds K T.d_check_counts ["counts"] [] := T.F_check_counts.binds fun _ _ _ _ _ _ us hl => match us, hl with | [_], _ => rfl
theorem b_check_shuffle (T : Txt K mg) : Binds K T.d_check_shuffle ["shuffle"] [] := T.F_check_shuffle.binds fun _ _ _ _ _ _ us hl => match us, hl with | [_], _ => rfl
theorem b_check_many (T : Txt K mg) : Binds K T.d_check_many ["many"] [] := T.F_check_many.binds fun _ _ _ _ _ _ us hl => match us, hl with | [_], _ => rfl
theorem b_is_term (T : Txt K mg) : Binds K T.d_is_term ["value"] [] := T.F_is_term.binds fun _ _ _ _ _ _ us hl => match us, hl with | [_], _ => rfl
theorem b_Live_may_come (T : Txt K mg) : Binds K T.d_Live_may_come ["self", "number"] [] := T.F_Live_may_come.binds fun _ _ _ _ _ _ us hl => match us, hl with | [_, _], _ => rfl
theorem b_check_hole (T : Txt K mg) : Binds K T.d_check_hole ["items"] [] := T.F_check_hole.binds fun _ _ _ _ _ _ us hl => match us, hl with | [_], _ => rfl
theorem b_numbers (T : Txt K mg) : Binds K T.d_numbers ["rule", "many"] [] := T.F_numbers.binds fun _ _ _ _ _ _ us hl => match us, hl with | [_, _], _ => rfl
theorem b_rings_in (T : Txt K mg) : Binds K T.d_rings_in ["shuffle"] [] := T.F_rings_in.binds fun _ _ _ _ _ _ us hl => match us, hl with | [_], _ => rfl
theorem b_law_well (T : Txt K mg) : Binds K T.d_law_well ["script", "k"] [] := T.F_law_well.binds fun _ _ _ _ _ _ us hl => match us, hl with | [_, _], _ => rfl
theorem b_check_rule (T : Txt K mg) : Binds K T.d_check_rule ["rule"] [] := T.F_check_rule.binds fun _ _ _ _ _ _ us hl => match us, hl with | [_], _ => rfl
theorem b_Live_lay (T : Txt K mg) : Binds K T.d_Live_lay ["self", "count"] [] := T.F_Live_lay.binds fun _ _ _ _ _ _ us hl => match us, hl with | [_, _], _ => rfl
theorem b_Live_undo (T : Txt K mg) : Binds K T.d_Live_undo ["self"] [] := T.F_Live_undo.binds fun _ _ _ _ _ _ us hl => match us, hl with | [_], _ => rfl
theorem b_new_numbers (T : Txt K mg) : Binds K T.d_new_numbers ["row"] [] := T.F_new_numbers.binds fun _ _ _ _ _ _ us hl => match us, hl with | [_], _ => rfl
theorem b_lengths (T : Txt K mg) : Binds K T.d_lengths ["shuffle"] [] := T.F_lengths.binds fun _ _ _ _ _ _ us hl => match us, hl with | [_], _ => rfl
theorem b_shuffle_of (T : Txt K mg) : Binds K T.d_shuffle_of ["counts"] [] := T.F_shuffle_of.binds fun _ _ _ _ _ _ us hl => match us, hl with | [_], _ => rfl
theorem b_Live_tell (T : Txt K mg) : Binds K T.d_Live_tell ["self", "number"] [] := T.F_Live_tell.binds fun _ _ _ _ _ _ us hl => match us, hl with | [_, _], _ => rfl
theorem b_Live_contains (T : Txt K mg) : Binds K T.d_Live_contains ["self", "value"] [] := T.F_Live_contains.binds fun _ _ _ _ _ _ us hl => match us, hl with | [_, _], _ => rfl
theorem b_first_bar (T : Txt K mg) : Binds K T.d_first_bar ["row"] [] := T.F_first_bar.binds fun _ _ _ _ _ _ us hl => match us, hl with | [_], _ => rfl
theorem b_hole (T : Txt K mg) : Binds K T.d_hole ["items"] [] := T.F_hole.binds fun _ _ _ _ _ _ us hl => match us, hl with | [_], _ => rfl
theorem b_told (T : Txt K mg) : Binds K T.d_told ["rule", "many"] [] := T.F_told.binds fun _ _ _ _ _ _ us hl => match us, hl with | [_, _], _ => rfl
theorem b_back_row (T : Txt K mg) : Binds K T.d_back_row ["shuffle", "many"] [] := T.F_back_row.binds fun _ _ _ _ _ _ us hl => match us, hl with | [_, _], _ => rfl
theorem b_rings (T : Txt K mg) : Binds K T.d_rings ["row"] [] := T.F_rings.binds fun _ _ _ _ _ _ us hl => match us, hl with | [_], _ => rfl
theorem b_law_shuffle_right (T : Txt K mg) : Binds K T.d_law_shuffle_right ["live"] [] := T.F_law_shuffle_right.binds fun _ _ _ _ _ _ us hl => match us, hl with | [_], _ => rfl
theorem b_law_barred_at (T : Txt K mg) : Binds K T.d_law_barred_at ["live", "more"] [] := T.F_law_barred_at.binds fun _ _ _ _ _ _ us hl => match us, hl with | [_, _], _ => rfl
theorem b_law_great_right (T : Txt K mg) : Binds K T.d_law_great_right ["well"] [] := T.F_law_great_right.binds fun _ _ _ _ _ _ us hl => match us, hl with | [_], _ => rfl
theorem b_law_next_right (T : Txt K mg) : Binds K T.d_law_next_right ["well", "live"] [] := T.F_law_next_right.binds fun _ _ _ _ _ _ us hl => match us, hl with | [_, _], _ => rfl
theorem b_law_right (T : Txt K mg) : Binds K T.d_law_right ["well"] [] := T.F_law_right.binds fun _ _ _ _ _ _ us hl => match us, hl with | [_], _ => rfl
theorem b_law (T : Txt K mg) : Binds K T.d_law ["script"] [] := T.F_law.binds fun _ _ _ _ _ _ us hl => match us, hl with | [_], _ => rfl
/-! ### is_whole -/
def sp_is_whole (K : PySem.W.Frag) : Sp := fun vs H Q _ => ∃ n : Int, vs = [.int n] ∧ RetV (.bl true) H Q
theorem v_is_whole {K : PySem.W.Frag} {H : Hp} (n : Int) : SpV (sp_is_whole K) [.int n] H (.bl true) := fun H1 e Q q E => ⟨n, rfl, q⟩
theorem ok_is_whole (T : Txt K mg) : FnG PP w K mg base CX0 1 T.a_is_whole T.d_is_whole ["value"] (sp_is_whole K) := by
  refine okG T.F_is_whole sc_is_whole (fun vs H Q E h => ?_) (fun cdv A out s H vs Q E hr h => ?_)
  · obtain ⟨n, rfl, q⟩ := h
    rfl
  · obtain ⟨n, rfl, q⟩ := h
    refine ⟨_, (pss_one (ps_ret (pe_and (pe_callB (call_isiK' (K := K) rfl) (by rfl) T.z_isinstance bt_isinstance (pa_cons (pv 0) (pa_cons (pe_bltn (v := .ty "int") (by rfl) T.z_int bt_int rfl) pa_nil))) (pe_one (pe_not (pe_callB (call_isiK' (K := K) rfl) (by rfl) T.z_isinstance bt_isinstance (pa_cons (pv 0) (pa_cons (pe_bltn (v := .ty "bool") (by rfl) T.z_bool bt_bool rfl) pa_nil)))))))), ?_⟩
    exact s_ret (ev_andV (ev_isi (ev_var rfl) (fun _ _ => .base (.int n)) kb_int_int) fun _ => ev_notV (ev_isi (ev_var rfl) (fun _ _ => .base (.int n)) kb_int_bool)) q
/-! ### Live.__init__ -/
def sp_Live_init (T : Txt K mg) : Sp := fun vs H Q _ => ∃ (p dx : Addr), vs = [.ref p] ∧ H p = some (.ins T.a_Live dx []) ∧ ∀ l1 l2 H', H l1 = none → H l2 = none → But p H H' → Liv T.a_Live H' p l1 l2 [] → Q .non H'
theorem eo_make (T : Txt K mg) {σ : L2.St} {H : Hp} {E : XK} : EvO T.a_Live (tMake T.a_Live (sp_Live_init T) [] E tNil) σ H := fun H1 e Q q x dx hx hd ne =>
  ⟨x, dx, rfl, upd_same, fun l1 l2 H' f1 f2 b L => ⟨rfl, by
    have h : ∀ l, upd (upd H1 dx (.own x)) x (.ins T.a_Live dx []) l = none → H1 l = none := fun l z => by
      by_cases c : l = x
      · rw [c]
        exact hx
      · rw [upd_ne c] at z
        by_cases d : l = dx
        · rw [d]
          exact hd
        · rwa [upd_ne d] at z
    refine q x l1 l2 H' hx (h _ f1) (h _ f2) (fun c o g => ?_) L
    have cx := ne_of_none g hx
    refine b c o cx ?_
    rw [upd_ne cx, upd_ne (ne_of_none g hd)]
    exact g⟩⟩
theorem ok_Live_init (T : Txt K mg) : FnG PP w K mg base CX0 1 T.a_Live_init T.d_Live_init ["self"] (sp_Live_init T) := by
  refine okG T.F_Live_init sc_Live_init (fun vs H Q E h => ?_) (fun cdv A out s H vs Q E hr h => ?_)
  · obtain ⟨p, dx, rfl, hp, q⟩ := h
    rfl
  · obtain ⟨p, dx, rfl, hp, q⟩ := h
    refine ⟨_, (pss_cons (ps_fld (pv 0) (pe_lst pa_nil) rfl)
    (pss_one (ps_fld (pv 0) (pe_lst pa_nil) rfl))), ?_⟩
    refine q_fldL (C := T.a_Live) (el_lst ea_nil (Nat.zero_le _)) (fun _ _ => ev_var rfl) hp T.cl_Live T.n_Live_numbers (by decide) fun l1 H1 f1 e1 g1 => ?_
    refine s_fldL (C := T.a_Live) (el_lst ea_nil (Nat.zero_le _)) (fun _ _ => ev_var rfl) upd_same T.cl_Live T.n_Live_counts (by show 1 < 1000; decide) fun l2 H2 f2 e2 g2 => ?_
    have n1 : p ≠ l1 := ne_of_none hp f1
    have n2 : p ≠ l2 := fun z => by
      rw [← z, upd_same] at f2
      cases f2
    rw [upd_ne n2.symm] at f2
    have g12 : H2 l1 = some (.lst []) := e2 _ _ (by rw [upd_ne n1.symm]; exact g1)
    refine q l1 l2 _ f1 (fresh_back e1 f2) (fun c o nc g => ?_) ⟨⟨dx, upd_same⟩, by rw [upd_ne n1.symm]; exact g12, by rw [upd_ne n2.symm]; exact g2, ne_of_none g1 f2, fun _ h => nomatch h⟩
    rw [upd_ne nc]
    exact e2 _ _ (by rw [upd_ne nc]; exact e1 _ _ g)
/-! ### Live.coming -/
def sp_Live_coming (T : Txt K mg) : Sp := fun vs H Q _ => ∃ (p l1 l2 : Addr) (cs : List Int), vs = [.ref p] ∧ Liv T.a_Live H p l1 l2 cs ∧ cs.length ≤ 4000 ∧ RetU [.int (low cs), .int (stp cs)] H Q
theorem u_coming (T : Txt K mg) {H : Hp} {p l1 l2 : Addr} {cs : List Int} (h : Liv T.a_Live H p l1 l2 cs) (hl : cs.length ≤ 4000) : SpU (sp_Live_coming T) (.ref p :: ([] ++ [])) H [.int (low cs), .int (stp cs)] := fun H1 e Q q E => ⟨p, l1, l2, cs, rfl, h.ex e, hl, q⟩
theorem ok_Live_coming (T : Txt K mg) : FnG PP w K mg base CX0 1 T.a_Live_coming T.d_Live_coming ["self"] (sp_Live_coming T) := by
  refine okG T.F_Live_coming sc_Live_coming (fun vs H Q E h => ?_) (fun cdv A out s H vs Q E hr h => ?_)
  · obtain ⟨p, l1, l2, cs, rfl, hL, hl, q⟩ := h
    rfl
  · obtain ⟨p, l1, l2, cs, rfl, hL, hl, q⟩ := h
    refine ⟨_, (pss_cons (ps_set (i := 1) sc_Live_coming.nd rfl (.inr rfl) (pe_op op_add (pe_callB (call_lenK (K := K) rfl) (by rfl) T.z_len bt_len (pa_cons (pe_fld (pv 0) rfl) pa_nil)) pe_int))
    (pss_cons (ps_set (i := 2) sc_Live_coming.nd rfl (.inl rfl) (pe_callB (cr_sumK (K := K) rfl rfl) (by rfl) T.z_sum bt_sum (pa_cons (pe_lc (own := [("d", 3), ("count", 4)]) (g := g2 K 3 4) rfl sc_Live_coming.nd (pi_enumC (c := 1) (by rfl) T.z_enumerate (pa_cons (pe_fld (pv 0) rfl) pa_nil)) (blkOk_by (own := [("d", 3), ("count", 4)]) (N := ["self", "n", "least", "d", "count"]) (sc := defScope s_Live_coming) (by decide +kernel)) (fun _ _ _ _ _ => (pg_tup rfl (pgs_cons (pg_name (i := 3) sc_Live_coming.nd rfl (Or.inl rfl)) (pgs_cons (pg_name (i := 4) sc_Live_coming.nd rfl (Or.inl rfl)) pgs_nil)))) (fun _ _ _ _ _ => (pts_one (pt_cmpR op_eq (pe_op op_mod (pv 1) (pv 3)) pe_int (nomark _)))) (fun _ _ _ _ _ => (pe_op op_mul (pv 3) (pv 4)))) pa_nil)))
    (pss_one (ps_ret (pe_tup (pa_cons (pv 2) (pa_cons (pv 1) pa_nil))))))), ?_⟩
    obtain ⟨⟨dx, hp⟩, g1, g2, ne, nn⟩ := id hL
    refine q_asg (v := .int (stp cs)) (ev_is (ev_op (ev_len (ev_fld (ev_var rfl) hp T.cl_Live T.n_Live_counts (lf_c _ _)) (sq_of g2)) ev_c rv_I0) (by rw [List.length_map, Int.add_comm]; rfl)) fun H1 e1 => ?_
    refine q_asg (v := .int (low cs)) (ev_is (ev_sumN (ns := ((List.range cs.length).filter fun d : Nat => decide ((1 + (cs.length : Int)) % (1 + (d : Int)) = 0)).map fun d : Nat => (1 + (d : Int)) * cs.getD d 0) (el_is (el_lcEnC (c := 1) (fun d => decide ((1 + (cs.length : Int)) % (1 + (d : Int)) = 0)) (fun d => V.int ((1 + (d : Int)) * cs.getD d 0)) (ev_fld (ev_var rfl) (e1 _ _ hp) T.cl_Live T.n_Live_counts (lf_c _ _)) (sq_of (e1 _ _ g2)) (by rw [List.length_map]; omega) (fun _ _ => rfl) ?_ ?_) ?_)) (by rw [sum_div])) fun H2 e2 => ?_
    · intro d x H2 e2 hx
      exact et_is (et_test (ev_op (ev_op (ev_var rfl) (ev_var rfl) (rv_I (show (0 : Int) < 1 + (d : Int) by omega))) ev_c (rv_eq rfl))) (by simp [stp])
    · intro d x H2 e2 hx _
      obtain ⟨m, rfl, hm, ex⟩ := vi_inv hx
      have hd := (List.getElem?_eq_some_iff.mp hm).1
      rw [ex]
      exact ev_op (ev_var rfl) (ev_var rfl) (rv_I (cml (by omega)))
    · rw [List.length_map]
      unfold given vi
      rw [List.map_map]
      rfl
    exact s_retU (eu_tup (ea_cons (ev_var rfl) (ea_cons (ev_var rfl) ea_nil)) (by show 2 ≤ 100000; decide)) fun r H3 hr e3 h3 => q r H3 (fresh_back (e1.trans e2) hr) ((e1.trans e2).trans e3) h3
/-! ### Live.row -/
def sp_Live_row (T : Txt K mg) : Sp := fun vs H Q _ => ∃ (p l1 l2 : Addr) (cs : List Int), vs = [.ref p] ∧ Liv T.a_Live H p l1 l2 cs ∧ cs.length ≤ 4000 ∧ RetL (vi (rowL cs)) H Q
theorem l_row_of_live (T : Txt K mg) {H : Hp} {p l1 l2 : Addr} {cs : List Int} (h : Liv T.a_Live H p l1 l2 cs) (hl : cs.length ≤ 4000) : SpL (sp_Live_row T) (.ref p :: ([] ++ [])) H (vi (rowL cs)) := fun H1 e Q q E => ⟨p, l1, l2, cs, rfl, h.ex e, hl, q⟩
theorem ok_Live_row (T : Txt K mg) : FnG PP w K mg base CX0 1 T.a_Live_row T.d_Live_row ["self"] (sp_Live_row T) := by
  refine okG T.F_Live_row sc_Live_row (fun vs H Q E h => ?_) (fun cdv A out s H vs Q E hr h => ?_)
  · obtain ⟨p, l1, l2, cs, rfl, hL, hl, q⟩ := h
    rfl
  · obtain ⟨p, l1, l2, cs, rfl, hL, hl, q⟩ := h
    refine ⟨_, (pss_one (ps_ret (pe_callTy (call_listK (K := K) rfl) (by rfl) T.z_list bt_list (pa_cons (pe_fld (pv 0) rfl) pa_nil)))), ?_⟩
    obtain ⟨⟨dx, hp⟩, g1, g2, ne, nn⟩ := id hL
    exact s_retL (el_list (ev_fld (ev_var rfl) hp T.cl_Live T.n_Live_numbers (lf_n _ _)) (sq_of g1)) fun r H1 hr e1 h1 => q r H1 hr e1 h1
/-! ### Live.rings -/
def sp_Live_rings (T : Txt K mg) : Sp := fun vs H Q _ => ∃ (p l1 l2 : Addr) (cs : List Int), vs = [.ref p] ∧ Liv T.a_Live H p l1 l2 cs ∧ cs.length ≤ 4000 ∧ RetL (vi (cs)) H Q
theorem l_rings_of_live (T : Txt K mg) {H : Hp} {p l1 l2 : Addr} {cs : List Int} (h : Liv T.a_Live H p l1 l2 cs) (hl : cs.length ≤ 4000) : SpL (sp_Live_rings T) (.ref p :: ([] ++ [])) H (vi (cs)) := fun H1 e Q q E => ⟨p, l1, l2, cs, rfl, h.ex e, hl, q⟩
theorem ok_Live_rings (T : Txt K mg) : FnG PP w K mg base CX0 1 T.a_Live_rings T.d_Live_rings ["self"] (sp_Live_rings T) := by
  refine okG T.F_Live_rings sc_Live_rings (fun vs H Q E h => ?_) (fun cdv A out s H vs Q E hr h => ?_)
  · obtain ⟨p, l1, l2, cs, rfl, hL, hl, q⟩ := h
    rfl
  · obtain ⟨p, l1, l2, cs, rfl, hL, hl, q⟩ := h
    refine ⟨_, (pss_one (ps_ret (pe_callTy (call_listK (K := K) rfl) (by rfl) T.z_list bt_list (pa_cons (pe_fld (pv 0) rfl) pa_nil)))), ?_⟩
    obtain ⟨⟨dx, hp⟩, g1, g2, ne, nn⟩ := id hL
    exact s_retL (el_list (ev_fld (ev_var rfl) hp T.cl_Live T.n_Live_counts (lf_c _ _)) (sq_of g2)) fun r H1 hr e1 h1 => q r H1 hr e1 h1
/-! ### Live.__len__ -/
def sp_Live_len (T : Txt K mg) : Sp := fun vs H Q _ => ∃ (p l1 l2 : Addr) (cs : List Int), vs = [.ref p] ∧ Liv T.a_Live H p l1 l2 cs ∧ RetV (.int (cs.length : Int)) H Q
theorem v_len_of_live (T : Txt K mg) {H : Hp} {p l1 l2 : Addr} {cs : List Int} (h : Liv T.a_Live H p l1 l2 cs) : SpV (sp_Live_len T) [.ref p] H (.int (cs.length : Int)) := fun H1 e Q q E => ⟨p, l1, l2, cs, rfl, h.ex e, q⟩
theorem ok_Live_len (T : Txt K mg) : FnG PP w K mg base CX0 1 T.a_Live_len T.d_Live_len ["self"] (sp_Live_len T) := by
  refine okG T.F_Live_len sc_Live_len (fun vs H Q E h => ?_) (fun cdv A out s H vs Q E hr h => ?_)
  · obtain ⟨p, l1, l2, cs, rfl, hL, q⟩ := h
    rfl
  · obtain ⟨p, l1, l2, cs, rfl, hL, q⟩ := h
    refine ⟨_, (pss_one (ps_ret (pe_callB (call_lenK (K := K) rfl) (by rfl) T.z_len bt_len (pa_cons (pe_fld (pv 0) rfl) pa_nil)))), ?_⟩
    obtain ⟨⟨dx, hp⟩, g1, g2, ne, nn⟩ := id hL
    exact s_ret (ev_is (ev_len (ev_fld (ev_var rfl) hp T.cl_Live T.n_Live_numbers (lf_n _ _)) (sq_of g1)) (by rw [List.length_map, rowL_length])) fun H1 e1 => q H1 e1
/-! ### Live.things -/
def sp_Live_things (T : Txt K mg) : Sp := fun vs H Q _ => ∃ (p l1 l2 : Addr) (cs : List Int), vs = [.ref p] ∧ Liv T.a_Live H p l1 l2 cs ∧ cs.length ≤ 4000 ∧ RetV (.int (thg cs)) H Q
theorem v_things (T : Txt K mg) {H : Hp} {p l1 l2 : Addr} {cs : List Int} (h : Liv T.a_Live H p l1 l2 cs) (hl : cs.length ≤ 4000) : SpV (sp_Live_things T) [.ref p] H (.int (thg cs)) := fun H1 e Q q E => ⟨p, l1, l2, cs, rfl, h.ex e, hl, q⟩
theorem ok_Live_things (T : Txt K mg) : FnG PP w K mg base CX0 1 T.a_Live_things T.d_Live_things ["self"] (sp_Live_things T) := by
  refine okG T.F_Live_things sc_Live_things (fun vs H Q E h => ?_) (fun cdv A out s H vs Q E hr h => ?_)
  · obtain ⟨p, l1, l2, cs, rfl, hL, hl, q⟩ := h
    rfl
  · obtain ⟨p, l1, l2, cs, rfl, hL, hl, q⟩ := h
    refine ⟨_, (pss_one (ps_ret (pe_callB (cr_sumK (K := K) rfl rfl) (by rfl) T.z_sum bt_sum (pa_cons (pe_lc (own := [("n", 1), ("count", 2)]) (g := g2 K 1 2) rfl sc_Live_things.nd (pi_enumC (c := 1) (by rfl) T.z_enumerate (pa_cons (pe_fld (pv 0) rfl) pa_nil)) (blkOk_by (own := [("n", 1), ("count", 2)]) (N := ["self", "n", "count"]) (sc := defScope s_Live_things) (by decide +kernel)) (fun _ _ _ _ _ => (pg_tup rfl (pgs_cons (pg_name (i := 1) sc_Live_things.nd rfl (Or.inl rfl)) (pgs_cons (pg_name (i := 2) sc_Live_things.nd rfl (Or.inl rfl)) pgs_nil)))) (fun _ _ _ _ _ => pts_nil) (fun _ _ _ _ _ => (pe_op op_mul (pv 1) (pv 2)))) pa_nil)))), ?_⟩
    obtain ⟨⟨dx, hp⟩, g1, g2, ne, nn⟩ := id hL
    refine s_ret (ev_sumN (ns := (List.range cs.length).map fun k : Nat => (1 + (k : Int)) * cs.getD k 0) (el_is (el_lcEnC (c := 1) (fun _ => true) (fun d => V.int ((1 + (d : Int)) * cs.getD d 0)) (ev_fld (ev_var rfl) hp T.cl_Live T.n_Live_counts (lf_c _ _)) (sq_of g2) (by rw [List.length_map]; omega) (fun _ _ => rfl) (fun _ _ _ _ _ => et_yes) ?_) ?_)) fun H1 e1 => q H1 e1
    · intro d x H2 e2 hx _
      obtain ⟨m, rfl, hm, ex⟩ := vi_inv hx
      have hd := (List.getElem?_eq_some_iff.mp hm).1
      rw [ex]
      exact ev_op (ev_var rfl) (ev_var rfl) (rv_I (cml (by omega)))
    · rw [List.length_map]
      exact given_ints _ _
/-! ### Live._put -/
def sp_Live_put (T : Txt K mg) : Sp := fun vs H Q _ => ∃ (p l1 l2 dx : Addr) (xs ys : List Int) (m c : Int), vs = [.ref p, .int m, .int c] ∧ H p = some (.ins T.a_Live dx (lf l1 l2)) ∧ H l1 = some (.lst (vi xs)) ∧ H l2 = some (.lst (vi ys)) ∧ l1 ≠ l2 ∧ xs.length ≤ 4000 ∧ ys.length ≤ 4000 ∧
  ∀ H', Off [l1, l2] H H' → H' l1 = some (.lst (vi (xs ++ [m]))) → H' l2 = some (.lst (vi (ys ++ [c]))) → Q .non H'
theorem ok_Live_put (T : Txt K mg) : FnG PP w K mg base CX0 1 T.a_Live_put T.d_Live_put ["self", "number", "count"] (sp_Live_put T) := by
  refine okG T.F_Live_put sc_Live_put (fun vs H Q E h => ?_) (fun cdv A out s H vs Q E hr h => ?_)
  · obtain ⟨p, l1, l2, dx, xs, ys, m, c, rfl, hp, g1, g2, ne, x1, y1, q⟩ := h
    rfl
  · obtain ⟨p, l1, l2, dx, xs, ys, m, c, rfl, hp, g1, g2, ne, x1, y1, q⟩ := h
    refine ⟨_, (pss_cons (ps_expr (pe_bm PySem.F.plainAttrs_list PySem.F.slot_list_append PySem.F.type_list_append mt_append (pe_fld (pv 0) rfl) (pa_cons (pv 1) pa_nil)))
    (pss_one (ps_expr (pe_bm PySem.F.plainAttrs_list PySem.F.slot_list_append PySem.F.type_list_append mt_append (pe_fld (pv 0) rfl) (pa_cons (pv 2) pa_nil))))), ?_⟩
    have n1 := ins_lst hp g1
    have n2 := ins_lst hp g2
    refine q_app g1 (ev_fld (ev_var rfl) hp T.cl_Live T.n_Live_numbers (lf_n _ _)) (ev_var rfl) (by rw [List.length_map]; omega) fun H1 e1 => ?_
    refine s_app (l := l2) (xs := vi ys) (by rw [upd_ne ne.symm]; exact e1 _ _ g2) (ev_fld (ev_var rfl) (by rw [upd_ne n1]; exact e1 _ _ hp) T.cl_Live T.n_Live_counts (lf_c _ _)) (ev_var rfl) (by rw [List.length_map]; omega) fun H2 e2 => ?_
    refine q _ (fun b o nb h => ?_) ?_ ?_
    · rw [upd_ne fun z => nb (by rw [z]; simp)]
      refine e2 _ _ ?_
      rw [upd_ne fun z => nb (by rw [z]; simp)]
      exact e1 _ _ h
    · rw [upd_ne ne, ← vi_app]
      exact e2 _ _ upd_same
    · rw [upd_same, ← vi_app]
      rfl
/-! ### to_power -/
def sp_to_power (K : PySem.W.Frag) : Sp := fun vs H Q _ => ∃ (b k : Nat), vs = [.int (b : Int), .int (k : Int)] ∧ b ≤ 5000 ∧ k ≤ 6 ∧ RetV (.int ((b ^ k : Nat) : Int)) H Q
theorem v_to_power {K : PySem.W.Frag} {H : Hp} {b k : Nat} (hb : b ≤ 5000) (hk : k ≤ 6) : SpV (sp_to_power K) [.int (b : Int), .int (k : Int)] H (.int ((b ^ k : Nat) : Int)) := fun H1 e Q q E => ⟨b, k, rfl, hb, hk, q⟩
theorem ok_to_power (T : Txt K mg) : FnG PP w K mg base CX0 1 T.a_to_power T.d_to_power ["base", "power"] (sp_to_power K) := by
  refine okG T.F_to_power sc_to_power (fun vs H Q E h => ?_) (fun cdv A out s H vs Q E hr h => ?_)
  · obtain ⟨b, k, rfl, hb, hk, q⟩ := h
    rfl
  · obtain ⟨b, k, rfl, hb, hk, q⟩ := h
    refine ⟨_, (pss_cons (ps_set (i := 2) sc_to_power.nd rfl (.inl rfl) pe_int)
    (pss_cons (ps_set (i := 3) sc_to_power.nd rfl (.inl rfl) (pv 0))
    (pss_cons (ps_set (i := 4) sc_to_power.nd rfl (.inl rfl) (pv 1))
    (pss_cons (ps_while PassesOwn.never (pt_cmpR op_gt (pv 4) pe_int (nomark _))
      (pss_cons (ps_if (pt_cmpR op_eq (pe_op op_mod (pv 4) pe_int) pe_int (nomark _))
        (pss_one (ps_set (i := 2) sc_to_power.nd rfl (.inl rfl) (pe_op op_mul (pv 2) (pv 3))))
        pss_nil)
      (pss_cons (ps_set (i := 4) sc_to_power.nd rfl (.inl rfl) (pe_op op_fdivW (pv 4) pe_int))
      (pss_one (ps_if (pt_cmpR op_gt (pv 4) pe_int (nomark _))
        (pss_one (ps_set (i := 3) sc_to_power.nd rfl (.inl rfl) (pe_op op_mul (pv 3) (pv 3))))
        pss_nil)))))
    (pss_one (ps_ret (pv 2))))))), ?_⟩
    have pw : ∀ e, e ≤ 3 → b ^ e ≤ 125000000000 := fun e he => Nat.le_trans (Nat.pow_le_pow_left hb e) (Nat.le_trans (Nat.pow_le_pow_right (by decide) he) (by decide))
    refine q_asg (v := .int ((b ^ 0 : Nat) : Int)) (ev_is ev_c (by rw [Nat.pow_zero]; rfl)) fun H1 e1 => ?_
    refine q_asg (v := .int ((b ^ 1 : Nat) : Int)) (ev_is (ev_var rfl) (by rw [Nat.pow_one])) fun H2 e2 => ?_
    refine q_asg (ev_var rfl) fun H3 e3 => ?_
    refine q_while (fun m σ' H' => ∃ f s t : Nat, m = t ∧ f + s * t = k ∧ (t = 0 ∨ f < s) ∧ σ' = [some (.int (b : Int)), some (.int (k : Int)), some (.int ((b ^ f : Nat) : Int)), some (.int ((b ^ s : Nat) : Int)), some (.int (t : Int))] ∧ Ex H H') k ?_ ?_
    · exact ⟨0, 1, k, rfl, by omega, .inr (by decide), rfl, (e1.trans e2).trans e3⟩
    rintro t σq H4 ⟨f, s, _, rfl, hs, fs, rfl, e⟩
    refine ⟨decide (0 < t), et_is (et_test (ev_op (ev_var rfl) ev_c (rv_b rfl))) (by simp), ?_, ?_⟩
    · intro hz H5 e5
      have t0 : 0 < t := of_decide_eq_true hz
      have g1 : s ≤ s * t := Nat.le_mul_of_pos_right _ t0
      have b2 := pw f (by omega)
      refine ⟨_, fun σ2 H2 h => h, ?_⟩
      refine q_when (b := decide (t % 2 = 1)) (et_is (et_test (ev_op (ev_op (ev_var rfl) ev_c (rv_I (show (0 : Int) < 2 by decide))) ev_c (rv_eq rfl))) (by simp; omega)) (fun hc H6 e6 => ?_) (fun hc H6 e6 => ?_)
      · obtain ⟨q', rfl⟩ : ∃ q', t = 2 * q' + 1 := ⟨t / 2, by have := of_decide_eq_true hc; omega⟩
        have es : s * (2 * q' + 1) = (s + s) * q' + s := by rw [Nat.mul_add, Nat.mul_one, ← Nat.mul_assoc, Nat.mul_two]
        refine s_asg (v := .int ((b ^ (f + s) : Nat) : Int)) (ev_is (ev_op (ev_var rfl) (ev_var rfl) (rv_I (.inl (by omega)))) (by rw [Nat.pow_add, Int.natCast_mul])) fun H7 e7 => ?_
        have e07 := ((e.trans e5).trans e6).trans e7
        refine q_asg (v := .int ((q' : Nat) : Int)) (ev_is (ev_op (ev_var rfl) ev_c (rv_I (cdw _ (by decide) (by decide)))) (by congr 1; omega)) fun H8 e8 => ?_
        refine s_when (b := decide (0 < q')) (et_is (et_test (ev_op (ev_var rfl) ev_c (rv_b rfl))) (by simp)) (fun hd H9 e9 => ?_) (fun hd H9 e9 => ?_)
        · have q0 : 0 < q' := of_decide_eq_true hd
          have g2 : s + s ≤ (s + s) * q' := Nat.le_mul_of_pos_right _ q0
          have b3 := pw s (by omega)
          refine s_asg (v := .int ((b ^ (s + s) : Nat) : Int)) (ev_is (ev_op (ev_var rfl) (ev_var rfl) (rv_I (.inl (by omega)))) (by rw [Nat.pow_add, Int.natCast_mul])) fun H10 e10 => ?_
          exact ⟨q', by omega, f + s, s + s, q', rfl, by omega, .inr (by omega), rfl, (e07.trans e8).trans (e9.trans e10)⟩
        · have q0 : q' = 0 := by
            have := of_decide_eq_false hd
            omega
          subst q0
          exact ⟨0, by omega, f + s, s, 0, rfl, by omega, .inl rfl, rfl, (e07.trans e8).trans e9⟩
      · obtain ⟨q', rfl⟩ : ∃ q', t = 2 * q' := ⟨t / 2, by have := of_decide_eq_false hc; omega⟩
        have es : s * (2 * q') = (s + s) * q' := by rw [← Nat.mul_assoc, Nat.mul_two]
        have e06 := (e.trans e5).trans e6
        refine q_asg (v := .int ((q' : Nat) : Int)) (ev_is (ev_op (ev_var rfl) ev_c (rv_I (cdw _ (by decide) (by decide)))) (by congr 1; omega)) fun H8 e8 => ?_
        refine s_when (b := decide (0 < q')) (et_is (et_test (ev_op (ev_var rfl) ev_c (rv_b rfl))) (by simp)) (fun hd H9 e9 => ?_) (fun hd H9 e9 => ?_)
        · have q0 : 0 < q' := of_decide_eq_true hd
          have g2 : s + s ≤ (s + s) * q' := Nat.le_mul_of_pos_right _ q0
          have b3 := pw s (by omega)
          refine s_asg (v := .int ((b ^ (s + s) : Nat) : Int)) (ev_is (ev_op (ev_var rfl) (ev_var rfl) (rv_I (.inl (by omega)))) (by rw [Nat.pow_add, Int.natCast_mul])) fun H10 e10 => ?_
          exact ⟨q', by omega, f, s + s, q', rfl, by omega, .inr (by omega), rfl, (e06.trans e8).trans (e9.trans e10)⟩
        · have q0 : q' = 0 := by
            have := of_decide_eq_false hd
            omega
          subst q0
          exact ⟨0, by omega, f, s, 0, rfl, by omega, .inl rfl, rfl, (e06.trans e8).trans e9⟩
    · intro hz H5 e5
      have t0 : t = 0 := by
        have := of_decide_eq_false hz
        omega
      subst t0
      have ek : f = k := by omega
      subst ek
      exact s_ret (ev_var rfl) fun H6 e6 => q H6 ((e.trans e5).trans e6)
/-! ### _first_with_rest -/
def sp_first_with_rest (K : PySem.W.Frag) : Sp := fun vs H Q _ => ∃ (s st t : Int) (n : Nat), vs = [.int s, .int st, .int t, .int (n : Int)] ∧ 1 ≤ n ∧ n ≤ 200 ∧ RetV (optI (fwr s st t n)) H Q
theorem v_first_with_rest {K : PySem.W.Frag} {H : Hp} {s st t : Int} {n : Nat} (h0 : 1 ≤ n) (h1 : n ≤ 200) : SpV (sp_first_with_rest K) [.int s, .int st, .int t, .int (n : Int)] H (optI (fwr s st t n)) := fun H1 e Q q E => ⟨s, st, t, n, rfl, h0, h1, q⟩
theorem ok_first_with_rest (T : Txt K mg) : FnG PP w K mg base CX0 1 T.a_first_with_rest T.d_first_with_rest ["start", "step", "rest", "n"] (sp_first_with_rest K) := by
  refine okG T.F_first_with_rest sc_first_with_rest (fun vs H Q E h => ?_) (fun cdv A out s H vs Q E hr h => ?_)
  · obtain ⟨s, st, t, n, rfl, h0, h1, q⟩ := h
    rfl
  · obtain ⟨s, st, t, n, rfl, h0, h1, q⟩ := h
    refine ⟨_, (pss_cons (ps_for PassesOwn.never rfl (pi_range1 (by rfl) T.z_range (pa_cons (pv 3) pa_nil)) (pg_name (i := 4) sc_first_with_rest.nd rfl (.inl rfl))
      (pss_one (ps_if (pt_cmpR op_eq (pe_op op_mod (pe_op op_add (pv 0) (pe_op op_mul (pv 4) (pv 1))) (pv 3)) (pv 2) (nomark _))
        (pss_one (ps_ret (pe_op op_add (pv 0) (pe_op op_mul (pv 4) (pv 1)))))
        pss_nil)))
    (pss_one (ps_ret pe_non))), ?_⟩
    refine q_forR1 (n := (n : Int)) (ea_cons (ev_var rfl) ea_nil) (by omega) (fun i σ' H' => ∃ (y : Option V), σ' = [some (.int s), some (.int st), some (.int t), some (.int (n : Int)), y] ∧ Ex H H' ∧ ∀ j, j < i → decide ((s + (j : Int) * st) % (n : Int) = t) = false) ?_ ?_ ?_
    · intro H1 e1
      exact ⟨_, rfl, e1, fun j hj => by omega⟩
    · rintro i σ' H1 hi ⟨y, rfl, e, hn⟩
      have hi' : i < n := by omega
      refine s_when (b := decide ((s + (i : Int) * st) % (n : Int) = t)) (et_is (et_test (ev_op (ev_op (ev_op (ev_var rfl) (ev_op (ev_var rfl) (ev_var rfl) (rv_I (cml (by omega)))) rv_I0) (ev_var rfl) (rv_I (show (0 : Int) < n by omega))) (ev_var rfl) (rv_eq rfl))) (by simp)) (fun hb H2 e2 => ?_) (fun hb H2 e2 => ?_)
      · refine s_ret (v := optI (fwr s st t n)) (ev_is (ev_op (ev_var rfl) (ev_op (ev_var rfl) (ev_var rfl) (rv_I (cml (by omega)))) rv_I0) ?_) fun H3 e3 => q H3 (e.trans (e2.trans e3))
        unfold fwr
        rw [find_at hn hb hi']
        rfl
      · refine ⟨_, rfl, e.trans e2, fun j hj => ?_⟩
        by_cases z : j = i
        · rw [z]; exact hb
        · exact hn j (by omega)
    · rintro σ' H1 ⟨y, rfl, e, hn⟩
      rw [Int.toNat_natCast] at hn
      refine s_ret (v := optI (fwr s st t n)) (ev_is ev_c ?_) fun H2 e2 => q H2 (e.trans e2)
      unfold fwr
      rw [find_no hn]
      rfl
/-! ### _powers -/
def sp_powers (K : PySem.W.Frag) : Sp := fun vs H Q _ => ∃ (c z : Int) (n : Nat), vs = [.int c, .int z, .int (n : Int)] ∧ -40 ≤ z ∧ z ≤ 40 ∧ n ≤ 4000 ∧ RetL (vi (tuv ⟨0, c, z⟩ n)) H Q
theorem l_powers {K : PySem.W.Frag} {H : Hp} {c z : Int} {n : Nat} (h0 : -40 ≤ z) (h1 : z ≤ 40) (hn : n ≤ 4000) : SpL (sp_powers K) [.int c, .int z, .int (n : Int)] H (vi (tuv ⟨0, c, z⟩ n)) := fun H1 e Q q E => ⟨c, z, n, rfl, h0, h1, hn, q⟩
theorem ok_powers (T : Txt K mg) : FnG PP w K mg base CX0 1 T.a_powers T.d_powers ["count", "base", "many"] (sp_powers K) := by
  refine okG T.F_powers sc_powers (fun vs H Q E h => ?_) (fun cdv A out s H vs Q E hr h => ?_)
  · obtain ⟨c, z, n, rfl, z0, z1, hn, q⟩ := h
    rfl
  · obtain ⟨c, z, n, rfl, z0, z1, hn, q⟩ := h
    refine ⟨_, (pss_cons (ps_set (i := 3) sc_powers.nd rfl (.inl rfl) (pe_lst pa_nil))
    (pss_cons (ps_set (i := 4) sc_powers.nd rfl (.inl rfl) (pv 0))
    (pss_cons (ps_for PassesOwn.never rfl (pi_range1 (by rfl) T.z_range (pa_cons (pv 2) pa_nil)) (pg_name (i := 5) sc_powers.nd rfl (.inl rfl))
      (pss_cons (ps_set (i := 4) sc_powers.nd rfl (.inl rfl) (pe_op op_mul (pv 4) (pv 1)))
      (pss_one (ps_expr (pe_bm PySem.F.plainAttrs_list PySem.F.slot_list_append PySem.F.type_list_append mt_append (pv 3) (pa_cons (pv 4) pa_nil))))))
    (pss_one (ps_ret (pv 3)))))), ?_⟩
    refine q_asgL (el_lst ea_nil (Nat.zero_le _)) fun p H1 f1 e1 g1 => ?_
    refine q_asg (v := .int (c * z ^ 0)) (ev_is (ev_var rfl) (by rw [Int.pow_zero, Int.mul_one])) fun H2 e2 => ?_
    refine q_forR1 (n := (n : Int)) (ea_cons (ev_var rfl) ea_nil) (by omega) (fun i σ' H' => ∃ y5, σ' = [some (.int c), some (.int z), some (.int (n : Int)), some (.ref p), some (.int (c * z ^ i)), y5] ∧ Ex H H' ∧ H' p = some (.lst (vi (tuv ⟨0, c, z⟩ i)))) ?_ ?_ ?_
    · intro H3 e3
      exact ⟨_, rfl, (e1.trans e2).trans e3, (e2.trans e3) _ _ g1⟩
    · rintro i σ' H' hi ⟨y5, rfl, e, g⟩
      have hi' : i < n := by omega
      refine q_asg (v := .int (c * z ^ (i + 1))) (ev_is (ev_op (ev_var rfl) (ev_var rfl) (rv_I (.inr (by omega)))) (by rw [Int.pow_succ, Int.mul_assoc])) fun H3 e3 => ?_
      refine s_app (e3 _ _ g) (ev_var rfl) (ev_var rfl) (by rw [List.length_map]; unfold tuv; rw [tab_length]; omega) fun H4 e4 => ?_
      refine ⟨_, rfl, ((e.trans e3).trans e4).mut f1, ?_⟩
      rw [upd_same]
      unfold tuv tabL
      rw [List.range_succ, List.map_append, ← vi_app]
      rfl
    · rintro σ' H' ⟨y5, rfl, e, g⟩
      exact s_ret (ev_var rfl) fun H3 e3 => q p H3 f1 (e.trans e3) (e3 _ _ g)
/-! ### _check_things -/
def sp_check_things (K : PySem.W.Frag) : Sp := fun vs H Q _ => ∃ m : Int, vs = [.int m] ∧ 1 ≤ m ∧ m ≤ 300 ∧ RetV .non H Q
theorem v_check_things {K : PySem.W.Frag} {H : Hp} {m : Int} (h1 : 1 ≤ m) (h2 : m ≤ 300) : SpV (sp_check_things K) [.int m] H .non := fun H1 e Q q E => ⟨m, rfl, h1, h2, q⟩
theorem ok_check_things (T : Txt K mg) : FnG PP w K mg base CX0 1 T.a_check_things T.d_check_things ["many"] (sp_check_things K) := by
  refine okG T.F_check_things sc_check_things (fun vs H Q E h => ?_) (fun cdv A out s H vs Q E hr h => ?_)
  · obtain ⟨m, rfl, h1, h2, q⟩ := h
    rfl
  · obtain ⟨m, rfl, h1, h2, q⟩ := h
    refine ⟨_, (pss_one (ps_if (pt_not (pt_chain op_le op_le pe_int (pv 0) (pe_glob (v := .int 300) rfl T.c_MOST_THINGS ⟨_, rfl⟩)))
      (pss_one ps_never)
      pss_nil)), ?_⟩
    exact s_when (b := false) (et_not (a := true) (et_test (ev_chain (a := true) (b := true) ev_c (ev_var rfl) (rv_b (decide_eq_true h1)) (fun _ => ev_c) fun _ => rv_b (decide_eq_true h2)))) (fun h => nomatch h) fun _ => q
/-! ### _law_draw -/
abbrev sp_law_draw := sp_dr
theorem ok_law_draw (T : Txt K mg) : FnG PP w K mg base CX0 1 T.a_law_draw T.d_law_draw ["well", "many"] (sp_law_draw K) := by
  refine okG T.F_law_draw sc_law_draw (fun vs H Q E h => ?_) (fun cdv A out s H vs Q E hr h => ?_)
  · obtain ⟨a, n, m, rfl, ⟨x, y, c, hW, y0, y1, c0, c1⟩, hn, m0, m1, q⟩ := h
    rfl
  · obtain ⟨a, n, m, rfl, ⟨x, y, c, hW, y0, y1, c0, c1⟩, hn, m0, m1, q⟩ := h
    refine ⟨_, (pss_cons (ps_if (pt_cmpR op_gt (pe_ix (ix_listK (K := K) rfl) (pv 0) pe_int (fun _ _ => rfl)) pe_int (nomark _))
      (pss_cons (ps_set (i := 2) sc_law_draw.nd rfl (.inl rfl) (pe_op op_mod (pe_callTy call_int1 (by rfl) T.z_int bt_int (pa_cons (pe_ix (ix_listK (K := K) rfl) (pv 0) pe_int (fun _ _ => rfl)) pa_nil)) (pv 1)))
      (pss_cons (ps_asg (pe_op op_fdivW (pe_ix (ix_listK (K := K) rfl) (pv 0) pe_int (fun _ _ => rfl)) (pv 1)) (pg_sub (pv 0) pe_int set_list))
      (pss_one (ps_ret (pv 2)))))
      pss_nil)
    (pss_cons (ps_asg (pe_op op_add (pe_ix (ix_listK (K := K) rfl) (pv 0) pe_int (fun _ _ => rfl)) pe_int) (pg_sub (pv 0) pe_int set_list))
    (pss_cons (ps_set (i := 3) sc_law_draw.nd rfl (.inl rfl) (pe_op op_mod (pe_callTy call_int1 (by rfl) T.z_int bt_int (pa_cons (pe_op op_powW (pe_op op_add (pe_ix (ix_listK (K := K) rfl) (pv 0) pe_int (fun _ _ => rfl)) (pe_op op_mul pe_int (pe_ix (ix_listK (K := K) rfl) (pv 0) pe_int (fun _ _ => rfl)))) pe_int) pa_nil)) (pe_op op_add (pe_op op_powW pe_int pe_int) pe_int)))
    (pss_cons (ps_set (i := 3) sc_law_draw.nd rfl (.inl rfl) (pe_op op_mod (pe_callTy call_int1 (by rfl) T.z_int bt_int (pa_cons (pe_op op_powW (pe_op op_add (pv 3) (pe_op op_mul pe_int (pe_ix (ix_listK (K := K) rfl) (pv 0) pe_int (fun _ _ => rfl)))) pe_int) pa_nil)) (pe_op op_add (pe_op op_powW pe_int pe_int) pe_int)))
    (pss_one (ps_ret (pe_op op_mod (pe_callTy call_int1 (by rfl) T.z_int bt_int (pa_cons (pe_op op_fdivW (pv 3) (pe_op op_powW pe_int pe_int)) pa_nil)) (pv 1)))))))), ?_⟩
    have hS := sq_of (K := K) hW
    by_cases hx : 0 < x
    · refine q_when (b := true) (et_test (ev_op (ev_op (ev_var rfl) ev_c (rv_ixL hS rfl)) ev_c (rv_b (decide_eq_true hx)))) (fun _ H1 e1 => ?_) (fun h => nomatch h)
      refine q_asg (ev_op (ev_int1 (ev_op (ev_var rfl) ev_c (rv_ixL (ex_l e1 hS) rfl))) (ev_var rfl) (rv_I m0)) fun H2 e2 => ?_
      have hW2 := e2 _ _ (e1 _ _ hW)
      refine q_setL (j := 0) hW2 (ev_op (ev_op (ev_var rfl) ev_c (rv_ixL (sq_of hW2) rfl)) (ev_var rfl) (rv_I (cdw8 _ m0 m1))) (ev_var rfl) ev_c (by show 0 < 3; decide) fun H3 e3 => ?_
      refine s_ret (ev_var rfl) fun H4 e4 => ?_
      refine q _ H4 (((But.ex ((e1.trans e2).trans e3)).trans .at).trans (But.ex e4)) ⟨_, _, _, e4 _ _ upd_same, y0, y1, c0, by omega⟩ (Int.emod_nonneg _ (by omega)) (Int.emod_lt_of_pos _ m0)
    · refine q_when (b := false) (et_test (ev_op (ev_op (ev_var rfl) ev_c (rv_ixL hS rfl)) ev_c (rv_b (decide_eq_false hx)))) (fun h => nomatch h) (fun _ H1 e1 => ?_)
      have hW1 := e1 _ _ hW
      refine q_setL (j := 2) hW1 (ev_op (ev_op (ev_var rfl) ev_c (rv_ixL (sq_of hW1) rfl)) ev_c rv_I0) (ev_var rfl) ev_c (by show 2 < 3; decide) fun H2 e2 => ?_
      have hW2 : upd H2 a (.lst ([.int x, .int y, .int c].set 2 (.int (c + 1)))) a = some (.lst [.int x, .int y, .int (c + 1)]) := upd_same
      have hS2 := sq_of (K := K) hW2
      refine q_asg (ev_op (ev_int1 (ev_op (ev_op (ev_op (ev_var rfl) ev_c (rv_ixL hS2 rfl)) (ev_op ev_c (ev_op (ev_var rfl) ev_c (rv_ixL hS2 rfl)) (rv_I (cml (by decide)))) rv_I0) ev_c (rv_I (cpw (by omega) (by decide) (by decide))))) (ev_op (ev_op ev_c ev_c (rv_I (cpw (by decide) (by decide) (by decide)))) ev_c rv_I0) (rv_I (by have := p10_pos (Int.toNat 43); omega))) fun H3 e3 => ?_
      have hS3 := ex_l e3 hS2
      have b0 := Int.emod_nonneg ((y + 15485863 * (c + 1)) ^ Int.toNat 5) (show (10 : Int) ^ Int.toNat 43 + 63 ≠ 0 by have := p10_pos (Int.toNat 43); omega)
      have b1 := Int.emod_lt_of_pos ((y + 15485863 * (c + 1)) ^ Int.toNat 5) (show (0 : Int) < 10 ^ Int.toNat 43 + 63 by have := p10_pos (Int.toNat 43); omega)
      have e43 : (10 : Int) ^ Int.toNat 43 = 10000000000000000000000000000000000000000000 := by decide
      refine q_asg (ev_op (ev_int1 (ev_op (ev_op (ev_var rfl) (ev_op ev_c (ev_op (ev_var rfl) ev_c (rv_ixL hS3 rfl)) (rv_I (cml (by decide)))) rv_I0) ev_c (rv_I (cpw (by omega) (by decide) (by decide))))) (ev_op (ev_op ev_c ev_c (rv_I (cpw (by decide) (by decide) (by decide)))) ev_c rv_I0) (rv_I (by have := p10_pos (Int.toNat 41); omega))) fun H4 e4 => ?_
      refine s_ret (ev_op (ev_int1 (ev_op (ev_var rfl) (ev_op ev_c ev_c (rv_I (cpw (by decide) (by decide) (by decide)))) (rv_I (cdw _ (p10_pos _) (by decide))))) (ev_var rfl) (rv_I m0)) fun H5 e5 => ?_
      refine q _ H5 ((((But.ex (e1.trans e2)).trans .at).trans (But.ex (e3.trans e4))).trans (But.ex e5)) ⟨_, _, _, e5 _ _ (e4 _ _ (e3 _ _ hW2)), y0, y1, by omega, by omega⟩ (Int.emod_nonneg _ (by omega)) (Int.emod_lt_of_pos _ m0)
/-! ### is_from_to -/
def sp_is_from_to (K : PySem.W.Frag) : Sp := fun vs H Q _ => ∃ (m lo hi : Int), vs = [.int m, .int lo, .int hi] ∧ RetV (.bl (decide (lo ≤ m) && decide (m ≤ hi))) H Q
theorem v_is_from_to {K : PySem.W.Frag} {H : Hp} {m lo hi : Int} : SpV (sp_is_from_to K) [.int m, .int lo, .int hi] H (.bl (decide (lo ≤ m) && decide (m ≤ hi))) := fun H1 e Q q E => ⟨m, lo, hi, rfl, q⟩
theorem ok_is_from_to (T : Txt K mg) : FnG PP w K mg base CX0 2 T.a_is_from_to T.d_is_from_to ["value", "least", "most"] (sp_is_from_to K) := by
  refine okG T.F_is_from_to sc_is_from_to (fun vs H Q E h => ?_) (fun cdv A out s H vs Q E hr h => ?_)
  · obtain ⟨m, lo, hi, rfl, q⟩ := h
    rfl
  · obtain ⟨m, lo, hi, rfl, q⟩ := h
    refine ⟨_, (pss_one (ps_ret (pe_and (callG (ok_is_whole T) (hr.mono (by decide)) (by rfl) T.g_is_whole T.F_is_whole.kp (b_is_whole T) .nil pass0 (pa_cons (pv 0) pa_nil)) (pe_one (pe_chain op_le op_le (pv 1) (pv 0) (pv 2)))))), ?_⟩
    exact s_ret (ev_is (ev_andV (a := true) (ev_call (ea_cons (ev_var rfl) ea_nil) (v_is_whole m)) fun _ => ev_chain (ev_var rfl) (ev_var rfl) (rv_b rfl) (fun _ => ev_var rfl) fun _ => rv_b rfl) (by rw [Bool.true_and])) q
/-! ### _common_rest -/
def sp_common_rest (K : PySem.W.Frag) : Sp := fun vs H Q _ => ∃ (a b : Addr) (fx sh : List Int) (N : Nat), vs = [.ref a, .ref b] ∧ SqL K H a (vi fx) ∧ SqL K H b (vi sh) ∧ fx.length = N ∧ sh.length = N ∧ N ≤ 120 ∧ Sgn sh N ∧ RetP (CrtV (crtF fx sh N)) H Q
theorem p_common_rest {K : PySem.W.Frag} {H : Hp} {a b : Addr} {fx sh : List Int} {N : Nat} (ha : SqL K H a (vi fx)) (hb : SqL K H b (vi sh)) (h1 : fx.length = N) (h2 : sh.length = N) (h3 : N ≤ 120) (hs : Sgn sh N) : SpP (sp_common_rest K) [.ref a, .ref b] H (CrtV (crtF fx sh N)) := fun H1 e Q q E => ⟨a, b, fx, sh, N, rfl, ex_l e ha, ex_l e hb, h1, h2, h3, hs, q⟩
theorem ok_common_rest (T : Txt K mg) : FnG PP w K mg base CX0 2 T.a_common_rest T.d_common_rest ["fixed", "shares"] (sp_common_rest K) := by
  refine okG T.F_common_rest sc_common_rest (fun vs H Q E h => ?_) (fun cdv A out s H vs Q E hr h => ?_)
  · obtain ⟨a, b, fx, sh, N, rfl, hA, hB, l1, l2, l3, hs, q⟩ := h
    rfl
  · obtain ⟨a, b, fx, sh, N, rfl, hA, hB, l1, l2, l3, hs, q⟩ := h
    refine ⟨_, (pss_cons (ps_asg (pe_tup (pa_cons pe_int (pa_cons pe_int pa_nil))) (pg_tup rfl (pgs_cons (pg_name (i := 2) sc_common_rest.nd rfl (.inl rfl)) (pgs_cons (pg_name (i := 3) sc_common_rest.nd rfl (.inl rfl)) pgs_nil))))
    (pss_cons (ps_for PassesOwn.never rfl (pi_enumZ (c := 1) (by rfl) T.z_enumerate (by rfl) T.z_zip (pa_cons (pv 0) (pa_cons (pv 1) pa_nil))) (pg_tup rfl (pgs_cons (pg_name (i := 4) sc_common_rest.nd rfl (.inl rfl)) (pgs_cons (pg_tup rfl (pgs_cons (pg_name (i := 5) sc_common_rest.nd rfl (.inl rfl)) (pgs_cons (pg_name (i := 6) sc_common_rest.nd rfl (.inl rfl)) pgs_nil))) pgs_nil)))
      (pss_one (ps_if (pt_cmpR op_eq (pv 6) pe_int (nomark _))
        (pss_one (ps_if (pt_cmpR op_ne (pe_op op_mod (pv 5) (pv 4)) pe_int (nomark _))
          (pss_one (ps_ret pe_non))
          pss_nil))
        (pss_cons (ps_set (i := 2) sc_common_rest.nd rfl (.inl rfl) (callG (ok_first_with_rest T) (hr.mono (by decide)) (by rfl) T.g_first_with_rest T.F_first_with_rest.kp (b_first_with_rest T) .nil pass0 (pa_cons (pv 2) (pa_cons (pv 3) (pa_cons (pe_op op_mod (pe_op op_mul (pe_un un_neg (pv 6)) (pv 5)) (pv 4)) (pa_cons (pv 4) pa_nil))))))
        (pss_cons (ps_if (pt_cmpR op_isN (pv 2) pe_non (nomark _))
          (pss_one (ps_ret pe_non))
          pss_nil)
        (pss_one (ps_set (i := 3) sc_common_rest.nd rfl (.inl rfl) (pe_callBfun cr_lcmW (by rfl) T.i_lcm (pa_cons (pv 3) (pa_cons (pv 4) pa_nil))))))))))
    (pss_one (ps_ret (pe_tup (pa_cons (pv 2) (pa_cons (pv 3) pa_nil))))))), ?_⟩
    refine q_tupVV ev_c ev_c fun H1 e1 => ?_
    refine q_forEnZ (xs := vi fx) (ys := vi sh) (ev_var rfl) (fun _ _ => ev_var rfl) (ex_l e1 hA) (ex_l e1 hB) (by rw [List.length_map, List.length_map, l1, l2]) (fun i σ' H' => ∃ (y4 y5 y6 : Option V) (rest : Int) (step : Nat), σ' = [some (.ref a), some (.ref b), some (.int rest), some (.int (step : Int)), y4, y5, y6] ∧ Ex H H' ∧ crtF fx sh i = some (rest, step)) ?_ ?_ ?_ ?_
    · intro H2 e2
      exact ⟨_, _, _, 0, 1, rfl, e1.trans e2, rfl⟩
    · rintro i σ' H' ⟨y4, y5, y6, rest, step, rfl, e, _⟩
      exact ⟨ex_l e hA, ex_l e hB⟩
    · rintro i x y σ' H2 hx hy ⟨y4, y5, y6, rest, step, rfl, e, hc⟩ H3 e3
      have hi : i < N := by
        have := (List.getElem?_eq_some_iff.mp hx).1
        rw [List.length_map, l1] at this
        exact this
      rw [getD_at (by omega)] at hx hy
      cases hx
      cases hy
      have e1i : (1 : Int) + (i : Int) = ((i + 1 : Nat) : Int) := by omega
      obtain ⟨s1, s2⟩ := crt_lt (by omega) hc
      have hno : ∀ {o : Option (Int × Nat)}, crtF fx sh (i + 1) = none → crtF fx sh N = none := fun h => crtF_none h (by omega)
      have hex : Ex H H3 := e.trans e3
      refine s_if (b := decide (fn sh i = 0)) (et_is (et_test (ev_op (ev_var rfl) ev_c (rv_eq rfl))) (by show decide (V.int (fn sh i) = .int 0) = _; simp)) (fun hz H4 e4 => ?_) (fun hz H4 e4 => ?_)
      · have hz := of_decide_eq_true hz
        refine s_when (b := decide (fn fx i % ((i + 1 : Nat) : Int) ≠ 0)) (et_is (et_test (ev_op (ev_op (ev_var rfl) (ev_var rfl) (rv_I (show (0 : Int) < 1 + (i : Int) by omega))) ev_c (rv_ne rfl))) (by rw [e1i]; show (!decide (V.int (fn fx i % ((i + 1 : Nat) : Int)) = .int 0)) = _; simp)) (fun hb H5 e5 => ?_) (fun hb H5 e5 => ?_)
        · have hN : crtF fx sh N = none := hno (o := none) (by rw [crtF, hc]; dsimp only; rw [if_pos hz, if_pos (of_decide_eq_true hb)])
          exact s_ret ev_c fun H6 e6 => q .non H6 (hex.trans (e4.trans (e5.trans e6))) (by rw [hN]; rfl)
        · refine ⟨_, _, _, rest, step, rfl, hex.trans (e4.trans e5), ?_⟩
          rw [crtF, hc]
          dsimp only
          rw [if_pos hz, if_neg (of_decide_eq_false hb)]
      · have hz := of_decide_eq_false hz
        refine q_asg (v := optI (fwr rest (step : Int) ((-(fn sh i) * fn fx i) % ((i + 1 : Nat) : Int)) (i + 1))) (ev_call (ea_cons (ev_var rfl) (ea_cons (ev_var rfl) (ea_cons (ev_op (ev_op (ev_un (ev_var rfl) ru_neg) (ev_var rfl) (rv_I (cml ?_))) (ev_var rfl) (rv_I (show (0 : Int) < 1 + (i : Int) by omega))) (ea_cons (ev_var rfl) ea_nil)))) ?_) fun H5 e5 => ?_
        · have h0 := hs i hi
          have : fn sh i = sh.getD i 0 := rfl
          omega
        · rw [e1i]
          exact v_first_with_rest (by omega) (by omega)
        cases hf : fwr rest (step : Int) ((-(fn sh i) * fn fx i) % ((i + 1 : Nat) : Int)) (i + 1) with
        | none =>
          have hN : crtF fx sh N = none := hno (o := none) (by rw [crtF, hc]; dsimp only; rw [if_neg hz, hf])
          refine q_when (b := true) (et_is (et_test (ev_op (ev_var rfl) ev_c rv_isN)) rfl) (fun _ H6 e6 => ?_) (fun h => nomatch h)
          exact s_ret ev_c fun H7 e7 => q .non H7 (hex.trans (e4.trans (e5.trans (e6.trans e7)))) (by rw [hN]; rfl)
        | some m =>
          refine q_when (b := false) (et_is (et_test (ev_op (ev_var rfl) ev_c rv_isN)) (decide_eq_false fun z => nomatch z)) (fun h => nomatch h) fun _ H6 e6 => ?_
          refine s_asg (v := .int ((Nat.lcm step (i + 1) : Nat) : Int)) (ev_is (ev_lcmW (ev_var rfl) (ev_var rfl) (by rw [Int.natAbs_natCast]; exact s2) (by rw [e1i, Int.natAbs_natCast]; exact Nat.lt_of_le_of_lt (show i + 1 ≤ 2 ^ 7 by omega) (Nat.pow_lt_pow_right (by decide) (by decide)))) (by rw [e1i, Int.natAbs_natCast, Int.natAbs_natCast])) fun H7 e7 => ?_
          refine ⟨_, _, _, m, _, rfl, hex.trans (e4.trans (e5.trans (e6.trans e7))), ?_⟩
          rw [crtF, hc]
          dsimp only
          rw [if_neg hz, hf]
    · rintro σ' H2 ⟨y4, y5, y6, rest, step, rfl, e, hc⟩
      rw [List.length_map, l1] at hc
      exact s_retU (eu_tup (ea_cons (ev_var rfl) (ea_cons (ev_var rfl) ea_nil)) (by show 2 ≤ 100000; decide)) fun p H3 f3 e3 g3 => q _ H3 (e.trans e3) (by rw [hc]; exact ⟨p, rfl, g3⟩)
/-! ### _numbers_of_term -/
def sp_numbers_of_term (K : PySem.W.Frag) : Sp := fun vs H Q _ => ∃ (a : Addr) (t : Tm) (n : Nat), vs = [.ref a, .int (n : Int)] ∧ SqT K H a (tv t) ∧ TmOk t ∧ n ≤ 4000 ∧ RetL (vi (tuv t n)) H Q
theorem l_numbers_of_term {K : PySem.W.Frag} {H : Hp} {a : Addr} {t : Tm} {n : Nat} (h : SqT K H a (tv t)) (ok : TmOk t) (hn : n ≤ 4000) : SpL (sp_numbers_of_term K) [.ref a, .int (n : Int)] H (vi (tuv t n)) := fun H1 e Q q E => ⟨a, t, n, rfl, ex_t e h, ok, hn, q⟩
theorem ok_numbers_of_term (T : Txt K mg) : FnG PP w K mg base CX0 2 T.a_numbers_of_term T.d_numbers_of_term ["term", "many"] (sp_numbers_of_term K) := by
  refine okG T.F_numbers_of_term sc_numbers_of_term (fun vs H Q E h => ?_) (fun cdv A out s H vs Q E hr h => ?_)
  · obtain ⟨a, ⟨w, c, z⟩, n, rfl, hT, ⟨c0, c1, w2, p, r, s⟩, hn, q⟩ := h
    rfl
  · obtain ⟨a, ⟨w, c, z⟩, n, rfl, hT, ⟨c0, c1, w2, p, r, s⟩, hn, q⟩ := h
    refine ⟨_, (pss_cons (ps_asg (pv 0) (pg_tup rfl (pgs_cons (pg_name (i := 2) sc_numbers_of_term.nd rfl (.inl rfl)) (pgs_cons (pg_name (i := 3) sc_numbers_of_term.nd rfl (.inr rfl)) (pgs_cons (pg_name (i := 4) sc_numbers_of_term.nd rfl (.inr rfl)) pgs_nil)))))
    (pss_cons (ps_if (pt_cmpR op_eq (pv 2) pe_str (nomark _))
      (pss_one (ps_ret (callG (ok_powers T) (hr.mono (by decide)) (by rfl) T.g_powers T.F_powers.kp (b_powers T) .nil pass0 (pa_cons (pv 3) (pa_cons (pv 4) (pa_cons (pv 1) pa_nil))))))
      pss_nil)
    (pss_cons (ps_if (pt_cmpR op_eq (pv 2) pe_str (nomark _))
      (pss_one (ps_ret (pe_lc (own := [("n", 5)]) (g := gName 5) rfl sc_numbers_of_term.nd (pi_range2 (by rfl) T.z_range (pa_cons pe_int (pa_cons (pe_op op_add (pv 1) pe_int) pa_nil))) (blkOk_by (own := [("n", 5)]) (N := ["term", "many", "kind", "count", "size", "n"]) (sc := defScope s_numbers_of_term) (by decide +kernel)) (fun _ _ _ _ _ => (pg_name (i := 5) sc_numbers_of_term.nd rfl (Or.inl rfl))) (fun _ _ _ _ _ => pts_nil) (fun _ _ _ _ _ => (pe_ifExp (pt_cmpR op_eq (pe_op op_mod (pv 5) (pv 4)) pe_int (nomark _)) (pe_op op_mul (pv 3) (pv 4)) pe_int)))))
      pss_nil)
    (pss_one (ps_ret (pe_lc (own := [("n", 5)]) (g := gName 5) rfl sc_numbers_of_term.nd (pi_range2 (by rfl) T.z_range (pa_cons pe_int (pa_cons (pe_op op_add (pv 1) pe_int) pa_nil))) (blkOk_by (own := [("n", 5)]) (N := ["term", "many", "kind", "count", "size", "n"]) (sc := defScope s_numbers_of_term) (by decide +kernel)) (fun _ _ _ _ _ => (pg_name (i := 5) sc_numbers_of_term.nd rfl (Or.inl rfl))) (fun _ _ _ _ _ => pts_nil) (fun _ _ _ _ _ => (pe_op op_mul (pv 3) (callG (ok_to_power T) (hr.mono (by decide)) (by rfl) T.g_to_power T.F_to_power.kp (b_to_power T) .nil pass0 (pa_cons (pv 5) (pa_cons (pv 4) pa_nil))))))))))), ?_⟩
    replace c0 : -1000000 ≤ c := c0
    replace c1 : c ≤ 1000000 := c1
    replace w2 : w < 3 := w2
    replace p : w = 0 → -40 ≤ z ∧ z ≤ 40 := p
    replace r : w = 1 → 1 ≤ z ∧ z ≤ 300 := r
    replace s : w = 2 → 1 ≤ z ∧ z ≤ 6 := s
    refine q_tup3 (ev_var rfl) hT fun H1 e1 => ?_
    match w, w2 with
    | 0, _ =>
      have lim := p rfl
      refine q_when (b := true) (et_is (et_test (ev_op (ev_var rfl) ev_c rv_eqS)) (by rfl)) (fun _ H2 e2 => ?_) (fun h => nomatch h)
      exact s_retL (el_call (ea_cons (ev_var rfl) (ea_cons (ev_var rfl) (ea_cons (ev_var rfl) ea_nil))) (l_powers lim.1 lim.2 hn)) fun l H3 h3 e3 g3 => q l H3 (fresh_back (e1.trans e2) h3) ((e1.trans e2).trans e3) g3
    | 1, _ =>
      have lim := r rfl
      refine q_when (b := false) (et_is (et_test (ev_op (ev_var rfl) ev_c rv_eqS)) (by rfl)) (fun h => nomatch h) fun _ H2 e2 => ?_
      refine q_when (b := true) (et_is (et_test (ev_op (ev_var rfl) ev_c rv_eqS)) (by rfl)) (fun _ H3 e3 => ?_) (fun h => nomatch h)
      refine s_retL (el_is (el_lcR2 (lo := 1) (n := (n : Int) + 1) (fun _ => true) (fun i => V.int (tat ⟨1, c, z⟩ (i + 1))) (ea_cons ev_c (ea_cons (ev_op (ev_var rfl) ev_c rv_I0) ea_nil)) (by omega) (fun _ => rfl) (fun _ _ _ _ => et_yes) ?_) ?_) fun l H4 h4 e4 g4 => q l H4 (fresh_back ((e1.trans e2).trans e3) h4) (((e1.trans e2).trans e3).trans e4) g4
      · intro i H4 e4 hi _
        have hz : (0 : Int) < z := by omega
        by_cases c : (1 + (i : Int)) % z = 0
        · exact ev_is (ev_if (b := true) (et_is (et_test (ev_op (ev_op (ev_var rfl) (ev_var rfl) (rv_I hz)) ev_c (rv_eq rfl))) (by rw [c]; rfl)) (fun _ => ev_op (ev_var rfl) (ev_var rfl) (rv_I (cml (by dsimp only; omega)))) (fun h => nomatch h)) (by
            show _ = V.int (if ((i + 1 : Nat) : Int) % z = 0 then _ else _)
            rw [show ((i + 1 : Nat) : Int) = 1 + (i : Int) by omega, if_pos c])
        · exact ev_is (ev_if (b := false) (et_is (et_test (ev_op (ev_op (ev_var rfl) (ev_var rfl) (rv_I hz)) ev_c (rv_eq rfl))) (decide_eq_false fun h => c (V.int.inj h))) (fun h => nomatch h) (fun _ => ev_c)) (by
            show _ = V.int (if ((i + 1 : Nat) : Int) % z = 0 then _ else _)
            rw [show ((i + 1 : Nat) : Int) = 1 + (i : Int) by omega, if_neg c])
      · rw [show ((n : Int) + 1 - 1).toNat = n by omega, given_tab]
        rfl
    | 2, _ =>
      have lim := s rfl
      refine q_when (b := false) (et_is (et_test (ev_op (ev_var rfl) ev_c rv_eqS)) (by rfl)) (fun h => nomatch h) fun _ H2 e2 => ?_
      refine q_when (b := false) (et_is (et_test (ev_op (ev_var rfl) ev_c rv_eqS)) (by rfl)) (fun h => nomatch h) fun _ H3 e3 => ?_
      obtain ⟨k, rfl⟩ : ∃ k : Nat, z = k := ⟨z.toNat, by omega⟩
      refine s_retL (el_is (el_lcR2 (lo := 1) (n := (n : Int) + 1) (fun _ => true) (fun i => V.int (tat ⟨2, c, (k : Int)⟩ (i + 1))) (ea_cons ev_c (ea_cons (ev_op (ev_var rfl) ev_c rv_I0) ea_nil)) (by omega) (fun _ => rfl) (fun _ _ _ _ => et_yes) ?_) ?_) fun l H4 h4 e4 g4 => q l H4 (fresh_back ((e1.trans e2).trans e3) h4) (((e1.trans e2).trans e3).trans e4) g4
      · intro i H4 e4 hi _
        exact ev_is (ev_op (ev_var rfl) (ev_call (ea_cons (ev_is (ev_var rfl) (show V.int (1 + (i : Int)) = .int ((i + 1 : Nat) : Int) by congr 1; omega)) (ea_cons (ev_var rfl) ea_nil)) (v_to_power (by omega) (by omega))) (rv_I (cml (by dsimp only; omega)))) rfl
      · rw [show ((n : Int) + 1 - 1).toNat = n by omega, given_tab]
        rfl
    | w + 3, h => exact absurd h (by omega)
/-! ### check_row -/
def sp_check_row (K : PySem.W.Frag) : Sp := fun vs H Q _ => ∃ (a : Addr) (ns : List Int), vs = [.ref a] ∧ SqL K H a (vi ns) ∧ 0 < ns.length ∧ ns.length ≤ 4000 ∧ RetV .non H Q
theorem v_check_row {K : PySem.W.Frag} {H : Hp} {a : Addr} {ns : List Int} (h : SqL K H a (vi ns)) (h0 : 0 < ns.length) (h1 : ns.length ≤ 4000) : SpV (sp_check_row K) [.ref a] H .non := fun H1 e Q q E => ⟨a, ns, rfl, ex_l e h, h0, h1, q⟩
theorem ok_check_row (T : Txt K mg) : FnG PP w K mg base CX0 3 T.a_check_row T.d_check_row ["row"] (sp_check_row K) := by
  refine okG T.F_check_row sc_check_row (fun vs H Q E h => ?_) (fun cdv A out s H vs Q E hr h => ?_)
  · obtain ⟨a, ns, rfl, hS, h0, h1, q⟩ := h
    rfl
  · obtain ⟨a, ns, rfl, hS, h0, h1, q⟩ := h
    refine ⟨_, (pss_cons (ps_if (PW.pt (pw_or (pt_not (pt_val (pe_callB (call_isiK' (K := K) rfl) (by rfl) T.z_isinstance bt_isinstance (pa_cons (pv 0) (pa_cons (pe_bltn (v := .ty "list") (by rfl) T.z_list bt_list rfl) pa_nil))))) (pw_or1 (pt_cmpR op_eq (pe_callB (call_lenK (K := K) rfl) (by rfl) T.z_len bt_len (pa_cons (pv 0) pa_nil)) pe_int (nomark _)))))
      (pss_one ps_never)
      pss_nil)
    (pss_one (ps_if (pt_not (pt_val (pe_callB (cr_allK (K := K) rfl rfl) (by rfl) T.z_all bt_all (pa_cons (pe_lc (own := [("number", 1)]) (g := gName 1) rfl sc_check_row.nd (pi_listK (K := K) rfl (pv 0)) (blkOk_by (own := [("number", 1)]) (N := ["row", "number"]) (sc := defScope s_check_row) (by decide +kernel)) (fun _ _ _ _ _ => (pg_name (i := 1) sc_check_row.nd rfl (Or.inl rfl))) (fun _ _ _ _ _ => pts_nil) (fun _ _ _ _ _ => (callG (ok_is_whole T) (hr.mono (by decide)) (by rfl) T.g_is_whole T.F_is_whole.kp (b_is_whole T) .nil pass0 (pa_cons (pv 1) pa_nil)))) pa_nil))))
      (pss_one ps_never)
      pss_nil))), ?_⟩
    refine q_when (b := false) (et_or (a := false) (b := false) (et_not (a := true) (et_B (ev_isi (ev_var rfl) (fun H1 e => ty_seql (ex_l e hS)) kb_list_list))) fun _ => et_is (et_test (ev_op (ev_len (ev_var rfl) hS) ev_c (rv_eq rfl))) ?_) (fun h => nomatch h) (fun _ H1 e1 => ?_)
    · exact decide_eq_false fun z => by
        have z' : ((vi ns).length : Int) = 0 := V.int.inj z
        rw [List.length_map] at z'
        omega
    refine s_when (b := false) (et_not (a := true) (et_B (ev_is (ev_allN (bs := List.replicate ns.length true) (el_is (el_lcL (fun _ => true) (fun _ => V.bl true) (ev_var rfl) (ex_l e1 hS) (by rw [List.length_map]; omega) (fun _ => rfl) (fun _ _ _ _ _ => et_yes) ?_) ?_)) ?_))) (fun h => nomatch h) fun _ H2 e2 => q H2 (e1.trans e2)
    · intro i x H2 e2 hx _
      obtain ⟨m, rfl, hm, hg⟩ := vi_inv hx
      exact ev_call (ea_cons (ev_var rfl) ea_nil) (v_is_whole m)
    · rw [given_all, List.length_map, List.map_replicate]
      refine List.ext_getElem? fun i => ?_
      rw [List.getElem?_map, List.getElem?_replicate]
      by_cases hi : i < ns.length
      · rw [List.getElem?_range hi, if_pos hi]
        rfl
      · rw [List.getElem?_eq_none (by rw [List.length_range]; omega), if_neg hi]
        rfl
    · rw [show (List.replicate ns.length true).all id = true by simp]
/-! ### check_counts -/
def sp_check_counts (K : PySem.W.Frag) : Sp := fun vs H Q _ => ∃ (a : Addr) (ns : List Int), vs = [.ref a] ∧ SqL K H a (vi ns) ∧ 0 < ns.length ∧ (∀ n ∈ ns, 0 ≤ n) ∧ RetV .non H Q
theorem v_check_counts {K : PySem.W.Frag} {H : Hp} {a : Addr} {ns : List Int} (h : SqL K H a (vi ns)) (h0 : 0 < ns.length) (hn : ∀ n ∈ ns, 0 ≤ n) : SpV (sp_check_counts K) [.ref a] H .non := fun H1 e Q q E => ⟨a, ns, rfl, ex_l e h, h0, hn, q⟩
theorem ok_check_counts (T : Txt K mg) : FnG PP w K mg base CX0 3 T.a_check_counts T.d_check_counts ["counts"] (sp_check_counts K) := by
  refine okG T.F_check_counts sc_check_counts (fun vs H Q E h => ?_) (fun cdv A out s H vs Q E hr h => ?_)
  · obtain ⟨a, ns, rfl, hS, h0, hn, q⟩ := h
    rfl
  · obtain ⟨a, ns, rfl, hS, h0, hn, q⟩ := h
    refine ⟨_, (pss_cons (ps_if (PW.pt (pw_or (pt_not (pt_val (pe_callB (call_isiK' (K := K) rfl) (by rfl) T.z_isinstance bt_isinstance (pa_cons (pv 0) (pa_cons (pe_bltn (v := .ty "list") (by rfl) T.z_list bt_list rfl) pa_nil))))) (pw_or1 (pt_cmpR op_eq (pe_callB (call_lenK (K := K) rfl) (by rfl) T.z_len bt_len (pa_cons (pv 0) pa_nil)) pe_int (nomark _)))))
      (pss_one ps_never)
      pss_nil)
    (pss_one (ps_for PassesOwn.never rfl (pi_enum (by rfl) T.z_enumerate (pa_cons (pv 0) pa_nil)) (pg_tup rfl (pgs_cons (pg_name (i := 1) sc_check_counts.nd rfl (.inl rfl)) (pgs_cons (pg_name (i := 2) sc_check_counts.nd rfl (.inl rfl)) pgs_nil)))
      (pss_one (ps_if (PW.pt (pw_or (pt_not (pt_val (callG (ok_is_whole T) (hr.mono (by decide)) (by rfl) T.g_is_whole T.F_is_whole.kp (b_is_whole T) .nil pass0 (pa_cons (pv 2) pa_nil)))) (pw_or1 (pt_cmpR op_lt (pv 2) pe_int (nomark _)))))
        (pss_one ps_never)
        pss_nil))))), ?_⟩
    refine q_when (b := false) (et_or (a := false) (b := false) (et_not (a := true) (et_B (ev_isi (ev_var rfl) (fun H1 e => ty_seql (ex_l e hS)) kb_list_list))) fun _ => et_is (et_test (ev_op (ev_len (ev_var rfl) hS) ev_c (rv_eq rfl))) ?_) (fun h => nomatch h) (fun _ H1 e1 => ?_)
    · exact decide_eq_false fun z => by
        have z' : ((vi ns).length : Int) = 0 := V.int.inj z
        rw [List.length_map] at z'
        omega
    refine s_forEn (ev_var rfl) (ex_l e1 hS) (fun i σ' H' => ∃ y1 y2, σ' = [some (.ref a), y1, y2] ∧ Ex H H') (fun H2 e2 => ⟨none, none, rfl, e1.trans e2⟩) ?_ ?_ ?_
    · rintro i σ' H' _ ⟨_, _, _, e⟩
      exact ex_l e hS
    · rintro i x σ' H' hx ⟨y1, y2, rfl, e⟩ H2 e2
      rw [List.getElem?_map] at hx
      cases hg : ns[i]? with
      | none =>
        rw [hg] at hx
        cases hx
      | some n =>
        rw [hg] at hx
        cases hx
        have n0 := hn n (List.mem_of_getElem? hg)
        refine s_when (b := false) (et_or (a := false) (b := false) (et_not (a := true) (et_B (ev_call (ea_cons (ev_var rfl) ea_nil) (v_is_whole n)))) fun _ => et_is (et_test (ev_op (ev_var rfl) ev_c rv_I0)) (decide_eq_false (by omega))) (fun h => nomatch h) (fun _ H3 e3 => ?_)
        exact ⟨_, _, rfl, (e.trans e2).trans e3⟩
    · rintro σ' H' ⟨_, _, _, e⟩
      exact q H' e
/-! ### check_shuffle -/
def sp_check_shuffle (K : PySem.W.Frag) : Sp := fun vs H Q _ => ∃ (a : Addr) (ns : List Int), vs = [.ref a] ∧ SqT K H a (vi ns) ∧ Shf ns ∧ RetV .non H Q
theorem v_check_shuffle {K : PySem.W.Frag} {H : Hp} {a : Addr} {ns : List Int} (h : SqT K H a (vi ns)) (s : Shf ns) : SpV (sp_check_shuffle K) [.ref a] H .non := fun H1 e Q q E => ⟨a, ns, rfl, ex_t e h, s, q⟩
theorem ok_check_shuffle (T : Txt K mg) : FnG PP w K mg base CX0 3 T.a_check_shuffle T.d_check_shuffle ["shuffle"] (sp_check_shuffle K) := by
  refine okG T.F_check_shuffle sc_check_shuffle (fun vs H Q E h => ?_) (fun cdv A out s H vs Q E hr h => ?_)
  · obtain ⟨a, ns, rfl, hS, sh, q⟩ := h
    rfl
  · obtain ⟨a, ns, rfl, hS, sh, q⟩ := h
    refine ⟨_, (pss_cons (ps_if (PW.pt (pw_or (pt_not (pt_val (pe_callB (call_isiK' (K := K) rfl) (by rfl) T.z_isinstance bt_isinstance (pa_cons (pv 0) (pa_cons (pe_bltn (v := .ty "tuple") (by rfl) T.z_tuple bt_tuple rfl) pa_nil))))) (pw_or1 (pt_not (pt_chain op_le op_le pe_int (pe_callB (call_lenK (K := K) rfl) (by rfl) T.z_len bt_len (pa_cons (pv 0) pa_nil)) (pe_glob (v := .int 300) rfl T.c_MOST_THINGS ⟨_, rfl⟩))))))
      (pss_one ps_never)
      pss_nil)
    (pss_cons (ps_if (pt_not (pt_val (pe_callB (cr_allK (K := K) rfl rfl) (by rfl) T.z_all bt_all (pa_cons (pe_lc (own := [("place", 1)]) (g := gName 1) rfl sc_check_shuffle.nd (pi_tupK (K := K) rfl (pv 0)) (blkOk_by (own := [("place", 1)]) (N := ["shuffle", "place"]) (sc := defScope s_check_shuffle) (by decide +kernel)) (fun _ _ _ _ _ => (pg_name (i := 1) sc_check_shuffle.nd rfl (Or.inl rfl))) (fun _ _ _ _ _ => pts_nil) (fun _ _ _ _ _ => (callG (ok_is_whole T) (hr.mono (by decide)) (by rfl) T.g_is_whole T.F_is_whole.kp (b_is_whole T) .nil pass0 (pa_cons (pv 1) pa_nil)))) pa_nil))))
      (pss_one ps_never)
      pss_nil)
    (pss_one (ps_if (pt_cmpR (op_neDK (K := K) rfl hr.rm.units) (pe_callB cr_sortedTup (by rfl) T.z_sorted bt_sorted (pa_cons (pv 0) pa_nil)) (pe_listRg rfl (by rfl) T.z_list (prg_1 (by rfl) T.z_range (pe_callB (call_lenK (K := K) rfl) (by rfl) T.z_len bt_len (pa_cons (pv 0) pa_nil)))) (nomark _))
      (pss_one ps_never)
      pss_nil)))), ?_⟩
    have hl : ((vi ns).length : Int) = (ns.length : Int) := by rw [List.length_map]
    have hs := sh
    obtain ⟨s0, s1, s2⟩ := sh
    refine q_when (b := false) (et_or (a := false) (b := false) (et_not (a := true) (et_B (ev_isi (ev_var rfl) (fun H1 e => ty_seqt (ex_t e hS)) kb_tuple_tuple))) fun _ => et_not (a := true) (et_test (ev_chain (a := true) (b := true) ev_c (ev_lenT (ev_var rfl) hS) (rv_b (decide_eq_true (by omega))) (fun _ => ev_c) fun _ => rv_b (decide_eq_true (by omega))))) (fun h => nomatch h) fun _ H1 e1 => ?_
    refine q_when (b := false) (et_not (a := true) (et_B (ev_is (ev_allN (bs := List.replicate ns.length true) (el_is (el_lcT (fun _ => true) (fun _ => V.bl true) (ev_var rfl) (ex_t e1 hS) (by rw [List.length_map]; omega) (fun _ => rfl) (fun _ _ _ _ _ => et_yes) ?_) ?_)) ?_))) (fun h => nomatch h) fun _ H2 e2 => ?_
    · intro i x H2 e2 hx _
      obtain ⟨m, rfl, hm, hg⟩ := vi_inv hx
      exact ev_call (ea_cons (ev_var rfl) ea_nil) (v_is_whole m)
    · rw [given_all, List.length_map, List.map_replicate]
      refine List.ext_getElem? fun i => ?_
      rw [List.getElem?_map, List.getElem?_replicate]
      by_cases hi : i < ns.length
      · rw [List.getElem?_range hi, if_pos hi]
        rfl
      · rw [List.getElem?_eq_none (by rw [List.length_range]; omega), if_neg hi]
        rfl
    · rw [show (List.replicate ns.length true).all id = true by simp]
    refine s_when (b := false) (et_is (et_test (ev_neLL (el_sortedT (ev_var rfl) (ex_t (e1.trans e2) hS) s2 (iota_sorted _)) (el_is (el_rg1 (ev_is (ev_lenT (ev_var rfl) (ex_t (e1.trans e2) hS)) (by rw [hl])) (by omega) (by omega)) (rgV_iota _)))) (by simp)) (fun h => nomatch h) fun _ H3 e3 => ?_
    exact q H3 ((e1.trans e2).trans e3)
/-! ### check_many -/
def sp_check_many (K : PySem.W.Frag) : Sp := fun vs H Q _ => ∃ (m : Int), vs = [.int m] ∧ 1 ≤ m ∧ m ≤ 300 ∧ RetV .non H Q
theorem v_check_many {K : PySem.W.Frag} {H : Hp} {m : Int} (h1 : 1 ≤ m) (h2 : m ≤ 300) : SpV (sp_check_many K) [.int m] H .non := fun H1 e Q q E => ⟨m, rfl, h1, h2, q⟩
theorem ok_check_many (T : Txt K mg) : FnG PP w K mg base CX0 3 T.a_check_many T.d_check_many ["many"] (sp_check_many K) := by
  refine okG T.F_check_many sc_check_many (fun vs H Q E h => ?_) (fun cdv A out s H vs Q E hr h => ?_)
  · obtain ⟨m, rfl, m0, m1, q⟩ := h
    rfl
  · obtain ⟨m, rfl, m0, m1, q⟩ := h
    refine ⟨_, (pss_one (ps_if (pt_not (pt_val (callG (ok_is_from_to T) (hr.mono (by decide)) (by rfl) T.g_is_from_to T.F_is_from_to.kp (b_is_from_to T) .nil pass0 (pa_cons (pv 0) (pa_cons pe_int (pa_cons (pe_glob (v := .int 300) rfl T.c_MOST_NUMBERS ⟨_, rfl⟩) pa_nil))))))
      (pss_one ps_never)
      pss_nil)), ?_⟩
    refine s_when (b := false) (et_not (a := true) (et_test (ev_is (ev_call (ea_cons (ev_var rfl) (ea_cons ev_c (ea_cons ev_c ea_nil))) v_is_from_to) (by rw [decide_eq_true m0, decide_eq_true m1]; rfl)))) (fun h => nomatch h) fun _ H1 e1 => q H1 e1
/-! ### is_term -/
def sp_is_term (K : PySem.W.Frag) : Sp := fun vs H Q _ => ∃ (a : Addr) (t : Tm), vs = [.ref a] ∧ SqT K H a (tv t) ∧ TmOk t ∧ RetV (.bl true) H Q
theorem v_is_term {K : PySem.W.Frag} {H : Hp} {a : Addr} {t : Tm} (h : SqT K H a (tv t)) (ok : TmOk t) : SpV (sp_is_term K) [.ref a] H (.bl true) := fun H1 e Q q E => ⟨a, t, rfl, ex_t e h, ok, q⟩
theorem ok_is_term (T : Txt K mg) : FnG PP w K mg base CX0 3 T.a_is_term T.d_is_term ["value"] (sp_is_term K) := by
  refine okG T.F_is_term sc_is_term (fun vs H Q E h => ?_) (fun cdv A out s H vs Q E hr h => ?_)
  · obtain ⟨a, ⟨w, c, z⟩, rfl, hT, ⟨c0, c1, w2, p, r, s⟩, q⟩ := h
    rfl
  · obtain ⟨a, ⟨w, c, z⟩, rfl, hT, ⟨c0, c1, w2, p, r, s⟩, q⟩ := h
    refine ⟨_, (pss_cons (ps_if (PW.pt (pw_or (pt_not (pt_val (pe_callB (call_isiK' (K := K) rfl) (by rfl) T.z_isinstance bt_isinstance (pa_cons (pv 0) (pa_cons (pe_bltn (v := .ty "tuple") (by rfl) T.z_tuple bt_tuple rfl) pa_nil))))) (pw_or1 (pt_cmpR op_ne (pe_callB (call_lenK (K := K) rfl) (by rfl) T.z_len bt_len (pa_cons (pv 0) pa_nil)) pe_int (nomark _)))))
      (pss_one (ps_ret pe_bl))
      pss_nil)
    (pss_cons (ps_asg (pv 0) (pg_tup rfl (pgs_cons (pg_name (i := 1) sc_is_term.nd rfl (.inr rfl)) (pgs_cons (pg_name (i := 2) sc_is_term.nd rfl (.inl rfl)) (pgs_cons (pg_name (i := 3) sc_is_term.nd rfl (.inr rfl)) pgs_nil)))))
    (pss_cons (ps_if (PW.pt (pw_or (pt_not (pt_val (pe_callB (call_isiK' (K := K) rfl) (by rfl) T.z_isinstance bt_isinstance (pa_cons (pv 1) (pa_cons (pe_bltn (v := .ty "str") (by rfl) T.z_str bt_str rfl) pa_nil))))) (pw_or1 (pt_not (pt_val (callG (ok_is_from_to T) (hr.mono (by decide)) (by rfl) T.g_is_from_to T.F_is_from_to.kp (b_is_from_to T) .nil pass0 (pa_cons (pv 2) (pa_cons (pe_un un_neg (pe_glob (v := .int 1000000) rfl T.c_MOST_COUNT ⟨_, rfl⟩)) (pa_cons (pe_glob (v := .int 1000000) rfl T.c_MOST_COUNT ⟨_, rfl⟩) pa_nil)))))))))
      (pss_one (ps_ret pe_bl))
      pss_nil)
    (pss_one (ps_ret (pe_callB (cr_anyK (K := K) rfl rfl) (by rfl) T.z_any bt_any (pa_cons (pe_lc (own := [("name", 4), ("least", 5), ("most", 6)]) (g := gTup K 3 (gCons (gName 4) (gCons (gName 5) (gCons (gName 6) gNil)))) rfl sc_is_term.nd (pi_tupK (K := K) rfl (pe_glob (v := .ref T.a_KINDS) rfl T.g_KINDS rfl)) (blkOk_by (own := [("name", 4), ("least", 5), ("most", 6)]) (N := ["value", "kind", "count", "size", "name", "least", "most"]) (sc := defScope s_is_term) (by decide +kernel)) (fun _ _ _ _ _ => (pg_tup rfl (pgs_cons (pg_name (i := 4) sc_is_term.nd rfl (Or.inl rfl)) (pgs_cons (pg_name (i := 5) sc_is_term.nd rfl (Or.inl rfl)) (pgs_cons (pg_name (i := 6) sc_is_term.nd rfl (Or.inl rfl)) pgs_nil))))) (fun _ _ _ _ _ => pts_nil) (fun _ _ _ _ _ => (pe_and (pe_cmpR op_eq (pv 1) (pv 4) (nomark _)) (pe_one (callG (ok_is_from_to T) (hr.mono (by decide)) (by rfl) T.g_is_from_to T.F_is_from_to.kp (b_is_from_to T) .nil pass0 (pa_cons (pv 3) (pa_cons (pv 5) (pa_cons (pv 6) pa_nil)))))))) pa_nil))))))), ?_⟩
    replace c0 : -1000000 ≤ c := c0
    replace c1 : c ≤ 1000000 := c1
    replace w2 : w < 3 := w2
    replace p : w = 0 → -40 ≤ z ∧ z ≤ 40 := p
    replace r : w = 1 → 1 ≤ z ∧ z ≤ 300 := r
    replace s : w = 2 → 1 ≤ z ∧ z ≤ 6 := s
    refine q_when (b := false) (et_or (a := false) (b := false) (et_not (a := true) (et_B (ev_isi (ev_var rfl) (fun H1 e => ty_seqt (ex_t e hT)) kb_tuple_tuple))) fun _ => et_is (et_test (ev_op (ev_lenT (ev_var rfl) hT) ev_c (rv_ne rfl))) rfl) (fun h => nomatch h) fun _ H1 e1 => ?_
    refine q_tup3 (ev_var rfl) (ex_t e1 hT) fun H2 e2 => ?_
    refine q_when (b := false) (et_or (a := false) (b := false) (et_not (a := true) (et_B (ev_isi (ev_var rfl) (fun H1 e => .base (.str _)) kb_str_str))) fun _ => et_not (a := true) (et_B (ev_is (ev_call (ea_cons (ev_var rfl) (ea_cons (ev_neg ev_c) (ea_cons ev_c ea_nil))) v_is_from_to) (by rw [decide_eq_true (show (-1000000 : Int) ≤ c by omega), decide_eq_true (show c ≤ (1000000 : Int) by omega)]; rfl)))) (fun h => nomatch h) fun _ H3 e3 => ?_
    replace q : ∀ H', Ex H3 H' → Q (.bl true) H' := fun H' e => q H' (((e1.trans e2).trans e3).trans e)
    have h3 : ∀ (n : Nat) (x : V), ([.ref T.a_KINDS_0, .ref T.a_KINDS_1, .ref T.a_KINDS_2] : List V)[n]? = some x → ∃ t p, x = .ref t ∧ ([(.str "power", .int (-40), .int 40), (.str "ring", .int 1, .int 300), (.str "places", .int 1, .int 6)] : List (V × V × V))[n]? = some p ∧ SqT K H3 t [p.1, p.2.1, p.2.2] := fun n x hx => match n, hx with
      | 0, hx => by cases hx; exact ⟨_, _, rfl, rfl, T.q_KINDS_0.sq⟩
      | 1, hx => by cases hx; exact ⟨_, _, rfl, rfl, T.q_KINDS_1.sq⟩
      | 2, hx => by cases hx; exact ⟨_, _, rfl, rfl, T.q_KINDS_2.sq⟩
      | n + 3, hx => by cases hx
    match w, w2 with
    | 0, _ =>
      have lim := p rfl
      exact s_ret (ev_is (ev_anyN (bs := [true, false, false]) (el_is (el_lcT3 (fun n => V.bl (decide (n = 0))) [(.str "power", .int (-40), .int 40), (.str "ring", .int 1, .int 300), (.str "places", .int 1, .int 6)] ev_c T.q_KINDS.sq (by show 3 ≤ 40000; decide) h3 (fun _ _ _ => rfl) (fun n p H1 e hp => by
        match n, hp with
        | 0, hp => cases hp; exact ev_andV (a := true) (b := true) (ev_is (ev_op (ev_var rfl) (ev_var rfl) rv_eqS) (by rfl)) fun _ => ev_is (ev_call (ea_cons (ev_var rfl) (ea_cons (ev_var rfl) (ea_cons (ev_var rfl) ea_nil))) v_is_from_to) (by rw [decide_eq_true (show (-40 : Int) ≤ z by omega), decide_eq_true (show z ≤ (40 : Int) by omega)]; rfl)
        | 1, hp => cases hp; exact ev_andV (a := false) (b := false) (ev_is (ev_op (ev_var rfl) (ev_var rfl) rv_eqS) (by rfl)) (fun h => nomatch h)
        | 2, hp => cases hp; exact ev_andV (a := false) (b := false) (ev_is (ev_op (ev_var rfl) (ev_var rfl) rv_eqS) (by rfl)) (fun h => nomatch h)
        | n + 3, hp => cases hp)) rfl)) rfl) fun H' e => q H' e
    | 1, _ =>
      have lim := r rfl
      exact s_ret (ev_is (ev_anyN (bs := [false, true, false]) (el_is (el_lcT3 (fun n => V.bl (decide (n = 1))) [(.str "power", .int (-40), .int 40), (.str "ring", .int 1, .int 300), (.str "places", .int 1, .int 6)] ev_c T.q_KINDS.sq (by show 3 ≤ 40000; decide) h3 (fun _ _ _ => rfl) (fun n p H1 e hp => by
        match n, hp with
        | 0, hp => cases hp; exact ev_andV (a := false) (b := false) (ev_is (ev_op (ev_var rfl) (ev_var rfl) rv_eqS) (by rfl)) (fun h => nomatch h)
        | 1, hp => cases hp; exact ev_andV (a := true) (b := true) (ev_is (ev_op (ev_var rfl) (ev_var rfl) rv_eqS) (by rfl)) fun _ => ev_is (ev_call (ea_cons (ev_var rfl) (ea_cons (ev_var rfl) (ea_cons (ev_var rfl) ea_nil))) v_is_from_to) (by rw [decide_eq_true (show (1 : Int) ≤ z by omega), decide_eq_true (show z ≤ (300 : Int) by omega)]; rfl)
        | 2, hp => cases hp; exact ev_andV (a := false) (b := false) (ev_is (ev_op (ev_var rfl) (ev_var rfl) rv_eqS) (by rfl)) (fun h => nomatch h)
        | n + 3, hp => cases hp)) rfl)) rfl) fun H' e => q H' e
    | 2, _ =>
      have lim := s rfl
      exact s_ret (ev_is (ev_anyN (bs := [false, false, true]) (el_is (el_lcT3 (fun n => V.bl (decide (n = 2))) [(.str "power", .int (-40), .int 40), (.str "ring", .int 1, .int 300), (.str "places", .int 1, .int 6)] ev_c T.q_KINDS.sq (by show 3 ≤ 40000; decide) h3 (fun _ _ _ => rfl) (fun n p H1 e hp => by
        match n, hp with
        | 0, hp => cases hp; exact ev_andV (a := false) (b := false) (ev_is (ev_op (ev_var rfl) (ev_var rfl) rv_eqS) (by rfl)) (fun h => nomatch h)
        | 1, hp => cases hp; exact ev_andV (a := false) (b := false) (ev_is (ev_op (ev_var rfl) (ev_var rfl) rv_eqS) (by rfl)) (fun h => nomatch h)
        | 2, hp => cases hp; exact ev_andV (a := true) (b := true) (ev_is (ev_op (ev_var rfl) (ev_var rfl) rv_eqS) (by rfl)) fun _ => ev_is (ev_call (ea_cons (ev_var rfl) (ea_cons (ev_var rfl) (ea_cons (ev_var rfl) ea_nil))) v_is_from_to) (by rw [decide_eq_true (show (1 : Int) ≤ z by omega), decide_eq_true (show z ≤ (6 : Int) by omega)]; rfl)
        | n + 3, hp => cases hp)) rfl)) rfl) fun H' e => q H' e
    | w + 3, h => exact absurd h (by omega)
/-! ### Live._may_come -/
def sp_Live_may_come (T : Txt K mg) : Sp := fun vs H Q _ => ∃ (p l1 l2 : Addr) (cs : List Int) (m : Int), vs = [.ref p, .int m] ∧ Liv T.a_Live H p l1 l2 cs ∧ cs.length ≤ 4000 ∧ RetV (.bl (mc cs m)) H Q
theorem v_may_come (T : Txt K mg) {H : Hp} {p l1 l2 : Addr} {cs : List Int} {m : Int} (h : Liv T.a_Live H p l1 l2 cs) (hl : cs.length ≤ 4000) : SpV (sp_Live_may_come T) (.ref p :: ([.int m] ++ [])) H (.bl (mc cs m)) := fun H1 e Q q E => ⟨p, l1, l2, cs, m, rfl, h.ex e, hl, q⟩
theorem ok_Live_may_come (T : Txt K mg) : FnG PP w K mg base CX0 3 T.a_Live_may_come T.d_Live_may_come ["self", "number"] (sp_Live_may_come T) := by
  refine okG T.F_Live_may_come sc_Live_may_come (fun vs H Q E h => ?_) (fun cdv A out s H vs Q E hr h => ?_)
  · obtain ⟨p, l1, l2, cs, m, rfl, hL, hl, q⟩ := h
    rfl
  · obtain ⟨p, l1, l2, cs, m, rfl, hL, hl, q⟩ := h
    refine ⟨_, (pss_cons (ps_asg (pe_methG0 (pv 0) T.cl_Live T.m_Live_coming (ok_Live_coming T) (hr.mono (by decide)) (b_Live_coming T) pass0) (pg_tup rfl (pgs_cons (pg_name (i := 2) sc_Live_may_come.nd rfl (.inl rfl)) (pgs_cons (pg_name (i := 3) sc_Live_may_come.nd rfl (.inl rfl)) pgs_nil))))
    (pss_one (ps_ret (pe_and (pe_cmpR op_ge (pv 1) (pv 2) (nomark _)) (pe_one (pe_cmpR op_eq (pe_op op_mod (pe_op op_sub (pv 1) (pv 2)) (pv 3)) pe_int (nomark _))))))), ?_⟩
    obtain ⟨⟨dx, hp⟩, g1, g2, ne, nn⟩ := id hL
    have sp := stp_pos cs
    refine q_tupU (eu_meth (ev_var rfl) hp (lf_no _ _ (by decide +kernel) (by decide +kernel)) ea_nil (u_coming T hL hl)) fun H1 e1 => ?_
    exact s_ret (v := .bl (mc cs m)) (ev_andV (a := decide (low cs ≤ m)) (b := decide ((m - low cs) % stp cs = 0)) (ev_op (ev_var rfl) (ev_var rfl) (rv_b rfl)) fun _ => ev_is (ev_op (ev_op (ev_op (ev_var rfl) (ev_var rfl) rv_I0) (ev_var rfl) (rv_I sp)) ev_c (rv_eq rfl)) (by simp)) fun H2 e2 => q H2 (e1.trans e2)
/-! ### _check_hole -/
def sp_check_hole (K : PySem.W.Frag) : Sp := fun vs H Q _ => ∃ (a : Addr) (r : List Int) (h : Nat), vs = [.ref a] ∧ SqL K H a (itV r h) ∧ h < r.length ∧ r.length ≤ 120 ∧ RetV .non H Q
theorem v_check_hole {K : PySem.W.Frag} {H : Hp} {a : Addr} {r : List Int} {h : Nat} (hS : SqL K H a (itV r h)) (hh : h < r.length) (h1 : r.length ≤ 120) : SpV (sp_check_hole K) [.ref a] H .non := fun H1 e Q q E => ⟨a, r, h, rfl, ex_l e hS, hh, h1, q⟩
theorem ok_check_hole (T : Txt K mg) : FnG PP w K mg base CX0 3 T.a_check_hole T.d_check_hole ["items"] (sp_check_hole K) := by
  refine okG T.F_check_hole sc_check_hole (fun vs H Q E h => ?_) (fun cdv A out s H vs Q E hr h => ?_)
  · obtain ⟨a, r, h, rfl, hS, hh, h1, q⟩ := h
    rfl
  · obtain ⟨a, r, h, rfl, hS, hh, h1, q⟩ := h
    refine ⟨_, (pss_cons (ps_if (pt_not (pt_val (pe_callB (call_isiK' (K := K) rfl) (by rfl) T.z_isinstance bt_isinstance (pa_cons (pv 0) (pa_cons (pe_bltn (v := .ty "list") (by rfl) T.z_list bt_list rfl) pa_nil)))))
      (pss_one ps_never)
      pss_nil)
    (pss_cons (ps_setLc (i := 1) (own := [("item", 2)]) (g := gName 2) rfl sc_check_hole.nd rfl rfl (sw_true rfl rfl rfl (by decide +kernel)) (pi_listK (K := K) rfl (pv 0)) (blkOk_by (own := [("item", 2)]) (N := ["items", "numbers", "item", "number"]) (sc := defScope s_check_hole) (by decide +kernel)) (fun _ _ _ _ _ => (pg_name (i := 2) sc_check_hole.nd rfl (Or.inl rfl))) (fun _ _ _ _ _ => (pts_one (pt_cmpR op_notN (pv 2) pe_non (nomark _)))) (fun _ _ _ _ _ => (pv 2)))
    (pss_cons (ps_if (pt_cmpR op_ne (pe_callB (call_lenK (K := K) rfl) (by rfl) T.z_len bt_len (pa_cons (pv 1) pa_nil)) (pe_op op_sub (pe_callB (call_lenK (K := K) rfl) (by rfl) T.z_len bt_len (pa_cons (pv 0) pa_nil)) pe_int) (nomark _))
      (pss_one ps_never)
      pss_nil)
    (pss_one (ps_if (pt_not (pt_val (pe_callB (cr_allK (K := K) rfl rfl) (by rfl) T.z_all bt_all (pa_cons (pe_lc (own := [("number", 3)]) (g := gName 3) rfl sc_check_hole.nd (pi_listK (K := K) rfl (pv 1)) (blkOk_by (own := [("number", 3)]) (N := ["items", "numbers", "item", "number"]) (sc := defScope s_check_hole) (by decide +kernel)) (fun _ _ _ _ _ => (pg_name (i := 3) sc_check_hole.nd rfl (Or.inl rfl))) (fun _ _ _ _ _ => pts_nil) (fun _ _ _ _ _ => (callG (ok_is_whole T) (hr.mono (by decide)) (by rfl) T.g_is_whole T.F_is_whole.kp (b_is_whole T) .nil pass0 (pa_cons (pv 3) pa_nil)))) pa_nil))))
      (pss_one ps_never)
      pss_nil))))), ?_⟩
    refine q_when (b := false) (et_not (a := true) (et_B (ev_isi (ev_var rfl) (fun H1 e => ty_seql (ex_l e hS)) kb_list_list))) (fun h => nomatch h) fun _ H1 e1 => ?_
    have il := itV_length r h
    refine q_asgL (xs := vi (r.take h ++ r.drop (h + 1))) (el_is (el_lcL (fun j => notN ((itV r h).getD j .non)) (fun j => (itV r h).getD j .non) (ev_var rfl) (ex_l e1 hS) (by omega) (fun _ => rfl) (fun i x H2 e2 hx => ?_) (fun i x H2 e2 hx _ => ?_)) ?_) fun p H2 f2 e2 g2 => ?_
    · rw [List.getD_eq_getElem?_getD, hx]
      exact et_is (et_test (ev_op (ev_var rfl) ev_c rv_notN)) (notN_eq x).symm
    · rw [List.getD_eq_getElem?_getD, hx]
      exact ev_var rfl
    · rw [given_filterN (itV r h) .non notN (fun v => v), List.map_id', filt_it hh]
    have hS2 := ex_l (e1.trans e2) hS
    have nl : (r.take h ++ r.drop (h + 1)).length + 1 = r.length := by rw [List.length_append, List.length_take, List.length_drop]; omega
    refine q_when (b := false) (et_is (et_test (ev_op (ev_len (ev_var rfl) (sq_of g2)) (ev_op (ev_len (ev_var rfl) hS2) ev_c rv_I0) (rv_ne rfl))) ?_) (fun h => nomatch h) fun _ H3 e3 => ?_
    · rw [decide_eq_true]
      · rfl
      · rw [List.length_map, il, ← nl]
        congr 1
        omega
    refine s_when (b := false) (et_not (a := true) (et_B (ev_is (ev_allN (bs := List.replicate (r.take h ++ r.drop (h + 1)).length true) (el_is (el_lcL (fun _ => true) (fun _ => V.bl true) (ev_var rfl) (sq_of (e3 _ _ g2)) (by rw [List.length_map]; omega) (fun _ => rfl) (fun _ _ _ _ _ => et_yes) ?_) ?_)) (by simp)))) (fun h => nomatch h) fun _ H4 e4 => q H4 ((e1.trans e2).trans (e3.trans e4))
    · intro i x H2 e2 hx _
      obtain ⟨m, rfl, hm, hg⟩ := vi_inv hx
      exact ev_call (ea_cons (ev_var rfl) ea_nil) (v_is_whole m)
    · rw [given_all, List.length_map, List.map_replicate]
      refine List.ext_getElem (by simp) fun i h1 h2 => by simp
/-! ### _numbers -/
def sp_numbers (K : PySem.W.Frag) : Sp := fun vs H Q _ => ∃ (r : Addr) (ts : List Tm) (n : Nat), vs = [.ref r, .int (n : Int)] ∧ Rul H r ts ∧ (∀ t ∈ ts, TmOk t) ∧ n ≤ 4000 ∧ RetL (vi (ruv ts n)) H Q
theorem l_numbers {K : PySem.W.Frag} {H : Hp} {r : Addr} {ts : List Tm} {n : Nat} (h : Rul H r ts) (ok : ∀ t ∈ ts, TmOk t) (hn : n ≤ 4000) : SpL (sp_numbers K) [.ref r, .int (n : Int)] H (vi (ruv ts n)) := fun H1 e Q q E => ⟨r, ts, n, rfl, h.ex e, ok, hn, q⟩
theorem el_lcZN {K : PySem.W.Frag} {σ : L2.St} {H : Hp} {te : TE} {a : Addr} {xs ys : List V} {tl tr : TE} {i j : Nat} {vs : List Nat} (v : Nat → V) (h : Ev tl σ H (.ref a)) (h' : EvL tr σ H ys) (hx : SqL K H a xs) (hz : xs.length ≤ 40000)
    (hw : ∀ x y, wipe (((wipe σ vs).set i (some x)).set j (some y)) vs = wipe σ vs)
    (he : ∀ (n : Nat) x y H1, Ex H H1 → xs[n]? = some x → ys[n]? = some y → Ev te (((wipe σ vs).set i (some x)).set j (some y)) H1 (v n)) :
    EvL (tLc (iZip K (tCons tl (tCons tr tNil))) (g2 K i j) tYes te vs) σ H (given (min xs.length ys.length) (fun _ => true) v) := fun H0 e Q q => h H0 e _ fun H1 e1 => h' H1 (e.trans e1) _ fun b H2 hb e2 g2 => by
  have ee := (e.trans e1).trans e2
  have r := el_lcZ (K := K) (σ := σ) (H := H2) (te := te) (a := a) (b := b) (xs := xs) (ys := ys) (tl := fun σ H Q => Q (.ref a) H) (tr := fun σ H Q => Q (.ref b) H) (i := i) (j := j) (vs := vs) v (fun H1 e Q q => q H1 (Ex.refl H1)) (fun H1 e Q q => q H1 (Ex.refl H1)) (ex_l ee hx) (sq_of g2) hz hw (fun n x y H1 e3 a b => he n x y H1 (ee.trans e3) a b)
  exact r H2 (Ex.refl H2) Q fun p H3 hp e3 g3 => q p H3 (fresh_back (e1.trans e2) hp) ((e1.trans e2).trans e3) g3
theorem ok_numbers (T : Txt K mg) : FnG PP w K mg base CX0 3 T.a_numbers T.d_numbers ["rule", "many"] (sp_numbers K) := by
  refine okG T.F_numbers sc_numbers (fun vs H Q E h => ?_) (fun cdv A out s H vs Q E hr h => ?_)
  · obtain ⟨r, ts, n, rfl, hR, ok, hn, q⟩ := h
    rfl
  · obtain ⟨r, ts, n, rfl, hR, ok, hn, q⟩ := h
    refine ⟨_, (pss_cons (ps_set (i := 2) sc_numbers.nd rfl (.inl rfl) (pe_op op_rep (pe_lst (pa_cons pe_int pa_nil)) (pv 1)))
    (pss_cons (ps_for PassesOwn.never rfl (pi_listK (K := K) rfl (pv 0)) (pg_name (i := 3) sc_numbers.nd rfl (.inl rfl))
      (pss_one (ps_setLc (i := 2) (own := [("number", 4), ("more", 5)]) (g := g2 K 4 5) rfl sc_numbers.nd rfl rfl (sw_true rfl rfl rfl (by decide +kernel)) (pi_zip (by rfl) T.z_zip (pa_cons (pv 2) (pa_cons (callG (ok_numbers_of_term T) (hr.mono (by decide)) (by rfl) T.g_numbers_of_term T.F_numbers_of_term.kp (b_numbers_of_term T) .nil pass0 (pa_cons (pv 3) (pa_cons (pv 1) pa_nil))) pa_nil))) (blkOk_by (own := [("number", 4), ("more", 5)]) (N := ["rule", "many", "row", "term", "number", "more"]) (sc := defScope s_numbers) (by decide +kernel)) (fun _ _ _ _ _ => (pg_tup rfl (pgs_cons (pg_name (i := 4) sc_numbers.nd rfl (Or.inl rfl)) (pgs_cons (pg_name (i := 5) sc_numbers.nd rfl (Or.inl rfl)) pgs_nil)))) (fun _ _ _ _ _ => pts_nil) (fun _ _ _ _ _ => (pe_op op_add (pv 4) (pv 5))))))
    (pss_one (ps_ret (pv 2))))), ?_⟩
    obtain ⟨as, g, la, f⟩ := id hR
    refine q_asgL (xs := vi (ruv [] n)) (el_is (el_rep (n := (n : Int)) (el_lst (ea_cons ev_c ea_nil) (by show 1 ≤ 100000; decide)) (fun _ _ => ev_var rfl) (by omega) (by show 1 * _ ≤ _; omega) (by omega)) ?_) fun p H1 f1 e1 g1 => ?_
    · rw [flat_rep, Int.toNat_natCast]
      unfold ruv tabL vi
      rw [List.map_map]
      refine List.ext_getElem (by simp) fun i h1 h2 => ?_
      simp [rat]
    refine s_forLn' (ev_var rfl) (sq_of (e1 _ _ g)) (fun i σ' H' => ∃ (l : Addr) (y3 : Option V), σ' = [some (.ref r), some (.int (n : Int)), some (.ref l), y3, none, none] ∧ Ex H H' ∧ H l = none ∧ H' l = some (.lst (vi (ruv (ts.take i) n)))) ?_ ?_ ?_ ?_
    · intro H2 e2
      exact ⟨p, _, rfl, e1.trans e2, f1, e2 _ _ g1⟩
    · rintro i σ' H' _ ⟨l, y3, rfl, e, f2, g2⟩
      exact sq_of (e _ _ g)
    · rintro i x σ' H' hx ⟨l, y3, rfl, e, f2, g2⟩
      rw [List.getElem?_map] at hx
      cases hg : as[i]? with
      | none =>
        rw [hg] at hx
        cases hx
      | some a =>
        rw [hg] at hx
        cases hx
        have hi := (List.getElem?_eq_some_iff.mp hg).1
        have hi' : i < ts.length := by omega
        have ht : ts[i]? = some (ts[i]'hi') := List.getElem?_eq_getElem _
        refine s_asgL (xs := vi (ruv (ts.take (i + 1)) n)) (el_is (el_lcZN (fun k => V.int (rat (ts.take i) (k + 1) + tat (ts[i]'hi') (k + 1))) (ev_var rfl) (el_call (ea_cons (ev_var rfl) (ea_cons (ev_var rfl) ea_nil)) (l_numbers_of_term (st_of (e _ _ (f i a _ hg ht))) (ok _ (List.getElem_mem _)) hn)) (sq_of g2) (by rw [List.length_map]; unfold ruv; rw [tab_length]; omega) (fun _ _ => rfl) ?_) ?_) fun l2 H2 f3 e2 g3 => ?_
        · intro k x y H2 e2 hx hy
          have hk : k < n := by
            have := (List.getElem?_eq_some_iff.mp hx).1
            rw [List.length_map] at this
            unfold ruv at this
            rwa [tab_length] at this
          unfold ruv at hx
          unfold tuv at hy
          rw [tab_at hk] at hx hy
          cases hx
          cases hy
          exact ev_op (ev_var rfl) (ev_var rfl) rv_I0
        · rw [List.length_map, List.length_map]
          unfold ruv tuv
          rw [tab_length, tab_length, Nat.min_self, given_ints]
          unfold tabL
          congr 1
          refine List.map_congr_left fun k _ => ?_
          rw [List.take_succ, ht]
          exact (rat_snoc _ _ _).symm
        · exact ⟨l2, _, rfl, e.trans e2, fresh_back e f3, g3⟩
    · rintro σ' H' ⟨l, y3, rfl, e, f2, g2⟩
      rw [show (as.map V.ref).length = ts.length by rw [List.length_map, la], List.take_length] at g2
      exact s_ret (ev_var rfl) fun H2 e2 => q l H2 f2 (e.trans e2) (e2 _ _ g2)
/-! ### _rings_in -/
def sp_rings_in (K : PySem.W.Frag) : Sp := fun vs H Q _ => ∃ (a : Addr) (ds : List Int), vs = [.ref a] ∧ SqT K H a (vi ds) ∧ Shf ds ∧ (Rings ds (ringsL ds ds.length) ds.length → RetN (ringsL ds ds.length) H Q)
theorem n_rings_in {K : PySem.W.Frag} {H : Hp} {a : Addr} {ds : List Int} (h : SqT K H a (vi ds)) (s : Shf ds) : SpN (sp_rings_in K) [.ref a] H (ringsL ds ds.length) :=
  fun H1 e Q q E => ⟨a, ds, rfl, ex_t e h, s, fun _ => q⟩
theorem ok_rings_in (T : Txt K mg) : FnG PP w K mg base CX0 3 T.a_rings_in T.d_rings_in ["shuffle"] (sp_rings_in K) := by
  refine okG T.F_rings_in sc_rings_in (fun vs H Q E h => ?_) (fun cdv A out s H vs Q E hr h => ?_)
  · obtain ⟨a, ds, rfl, hA, hs, q⟩ := h
    rfl
  · obtain ⟨a, ds, rfl, hA, hs, q⟩ := h
    refine ⟨_, (pss_cons (ps_set (i := 1) sc_rings_in.nd rfl (.inl rfl) (pe_lst pa_nil))
    (pss_cons (ps_set (i := 2) sc_rings_in.nd rfl (.inl rfl) (pe_op op_rep (pe_lst (pa_cons pe_bl pa_nil)) (pe_callB (call_lenK (K := K) rfl) (by rfl) T.z_len bt_len (pa_cons (pv 0) pa_nil))))
    (pss_cons (ps_for PassesOwn.never rfl (pi_range1 (by rfl) T.z_range (pa_cons (pe_callB (call_lenK (K := K) rfl) (by rfl) T.z_len bt_len (pa_cons (pv 0) pa_nil)) pa_nil)) (pg_name (i := 3) sc_rings_in.nd rfl (.inl rfl))
      (pss_one (ps_if (pt_not (pt_val (pe_ix (ix_listK (K := K) rfl) (pv 2) (pv 3) (fun _ _ => rfl))))
        (pss_cons (ps_set (i := 4) sc_rings_in.nd rfl (.inl rfl) (pe_lst pa_nil))
        (pss_cons (ps_set (i := 5) sc_rings_in.nd rfl (.inl rfl) (pv 3))
        (pss_cons (ps_while PassesOwn.never (pt_not (pt_val (pe_ix (ix_listK (K := K) rfl) (pv 2) (pv 5) (fun _ _ => rfl))))
          (pss_cons (ps_asg pe_bl (pg_sub (pv 2) (pv 5) set_list))
          (pss_cons (ps_expr (pe_bm PySem.F.plainAttrs_list PySem.F.slot_list_append PySem.F.type_list_append mt_append (pv 4) (pa_cons (pv 5) pa_nil)))
          (pss_one (ps_set (i := 5) sc_rings_in.nd rfl (.inl rfl) (pe_ix (ix_tupK (K := K) rfl) (pv 0) (pv 5) (fun _ _ => rfl)))))))
        (pss_one (ps_expr (pe_bm PySem.F.plainAttrs_list PySem.F.slot_list_append PySem.F.type_list_append mt_append (pv 1) (pa_cons (pv 4) pa_nil)))))))
        pss_nil)))
    (pss_one (ps_ret (pv 1)))))), ?_⟩
    have hl : ((vi ds).length : Int) = (ds.length : Int) := by rw [List.length_map]
    have h3 := hs.2.1
    refine q_asgL (el_lst ea_nil (Nat.zero_le _)) fun pf H1 f1 e1 h1 => ?_
    refine q_asgL (xs := marks ds.length []) (el_is (el_rep (n := (ds.length : Int)) (el_lst (ea_cons ev_c ea_nil) (by show 1 ≤ 100000; decide)) (fun H1 e2 => ev_is (ev_lenT (ev_var rfl) (ex_t (e1.trans e2) hA)) (by rw [hl])) (by omega) (by show 1 * _ ≤ _; omega) (by omega)) (by rw [Int.toNat_natCast]; exact marks_nil _)) fun ps H2 f2 e2 h2 => ?_
    have g1 := e2 _ _ h1
    have nsf : ps ≠ pf := ne_of_none' f2 h1
    have fs : H ps = none := fresh_back e1 f2
    refine q_forR1 (n := (ds.length : Int)) (ea_cons (ev_is (ev_lenT (ev_var rfl) (ex_t (e1.trans e2) hA)) (by rw [hl])) ea_nil) (by omega)
      (fun i σ' H' => ∃ (qs : List Addr) (y3 y4 y5 : Option V), σ' = [some (.ref a), some (.ref pf), some (.ref ps), y3, y4, y5] ∧ Ex H H' ∧ H' pf = some (.lst (qs.map .ref)) ∧ H' ps = some (.lst (marks ds.length (ringsL ds i).flatten)) ∧ Nest H' qs (ringsL ds i) ∧ (∀ q ∈ qs, q ≠ pf ∧ q ≠ ps ∧ H q = none) ∧ Rings ds (ringsL ds i) i) ?_ ?_ ?_
    · intro H3 e3
      exact ⟨[], _, _, _, rfl, (e1.trans e2).trans e3, e3 _ _ g1, e3 _ _ h2, Nest.nil, (fun q h => nomatch h), Rings.nil ds⟩
    · rintro i σ' H' hi ⟨qs, y3, y4, y5, rfl, e, gf, gs, ne, nq, rg⟩
      have hi' : i < ds.length := by omega
      by_cases hm : i ∈ (ringsL ds i).flatten
      · have er : ringsL ds (i + 1) = ringsL ds i := if_pos hm
        refine s_when (b := false) (et_not (a := true) (et_test (ev_is (ev_op (ev_var rfl) (ev_var rfl) (rv_ixL (sq_of gs) (atI_nat (marks_at _ hi')))) (by rw [decide_eq_true hm])))) (fun h => nomatch h) fun _ H3 e3 => ?_
        refine ⟨qs, _, _, _, rfl, e.trans e3, e3 _ _ gf, ?_, ?_, nq, ?_⟩
        · rw [er]
          exact e3 _ _ gs
        · rw [er]
          exact ne.ex e3
        · rw [er]
          exact rg.skip hm
      · have er : ringsL ds (i + 1) = ringsL ds i ++ [ringL ds i] := if_neg hm
        refine s_when (b := true) (et_not (a := false) (et_test (ev_is (ev_op (ev_var rfl) (ev_var rfl) (rv_ixL (sq_of gs) (atI_nat (marks_at _ hi')))) (by rw [decide_eq_false hm])))) (fun _ H3 e3 => ?_) (fun h => nomatch h)
        refine q_asgL (el_lst ea_nil (Nat.zero_le _)) fun pr H4 f4 e4 h4 => ?_
        have fr : H pr = none := fresh_back (e.trans e3) f4
        have nrf : pr ≠ pf := ne_of_none' f4 (e3 _ _ gf)
        have nrs : pr ≠ ps := ne_of_none' f4 (e3 _ _ gs)
        have nrq : ∀ q ∈ qs, q ≠ pr := fun q hq => ne.ne (ne.ex e3) hq f4
        refine q_asg (ev_var rfl) fun H5 e5 => ?_
        have e35 := (e3.trans e4).trans e5
        have M0 : (ringsL ds i).flatten.length ≤ ds.length := nlen_le rg.nd rg.lt
        refine q_while (fun m σ' H' => ∃ j, σ' = [some (.ref a), some (.ref pf), some (.ref ps), some (.int (i : Int)), some (.ref pr), some (.int (orb ds i j : Int))] ∧ Ex H H' ∧ H' pf = some (.lst (qs.map .ref)) ∧ H' ps = some (.lst (marks ds.length ((ringsL ds i).flatten ++ track ds i j))) ∧ H' pr = some (.lst (vi (up (track ds i j)))) ∧ Nest H' qs (ringsL ds i) ∧
          ((ringsL ds i).flatten ++ track ds i j).Nodup ∧ m + ((ringsL ds i).flatten.length + j) = ds.length) (ds.length - (ringsL ds i).flatten.length) ?_ ?_
        · refine ⟨0, rfl, e.trans e35, e35 _ _ gf, ?_, e5 _ _ h4, ne.ex e35, ?_, by omega⟩
          · show _ = some (HO.lst (marks ds.length ((ringsL ds i).flatten ++ [])))
            rw [List.append_nil]
            exact e35 _ _ gs
          · show ((ringsL ds i).flatten ++ []).Nodup
            rw [List.append_nil]
            exact rg.nd
        · rintro m σ'' H'' ⟨j, rfl, e', gf', gs', gr', ne', nd, hm'⟩
          have ho := orb_lt hs hi' j
          by_cases hmm : orb ds i j ∈ (ringsL ds i).flatten ++ track ds i j
          · refine ⟨false, et_not (a := true) (et_test (ev_is (ev_op (ev_var rfl) (ev_var rfl) (rv_ixL (sq_of gs') (atI_nat (marks_at _ ho)))) (by rw [decide_eq_true hmm]))), (fun h => nomatch h), fun _ H6 e6 => ?_⟩
            have hr := ring_close hs hi' hm (rg.fro hs) nd hmm
            refine s_app (e6 _ _ gf') (ev_var rfl) (ev_var rfl) ?_ fun H7 e7 => ?_
            · have : (ringsL ds i).length ≤ (ringsL ds i).flatten.length := rings_le fun r h => (rg.ring r h).pos
              rw [List.length_map, ne.1]
              omega
            refine ⟨qs ++ [pr], _, _, _, rfl, ((e'.trans e6).trans e7).mut (fresh_back (Ex.refl H) f1), ?_, ?_, ?_, ?_, ?_⟩
            · rw [upd_same, List.map_append]
              rfl
            · rw [upd_ne nsf, er, List.flatten_append, List.flatten_singleton, ← track_is hr]
              exact e7 _ _ (e6 _ _ gs')
            · rw [er, ← track_is hr]
              refine Nest.put (((ne'.ex e6).ex e7).upd fun q hq => (nq q hq).1) ?_
              rw [upd_ne nrf]
              exact e7 _ _ (e6 _ _ gr')
            · intro q hq
              rcases List.mem_append.mp hq with h | h
              · exact nq q h
              · rw [List.mem_singleton.mp h]
                exact ⟨nrf, nrs, fr⟩
            · rw [er, ← track_is hr]
              exact rg.put hr nd
          · refine ⟨true, et_not (a := false) (et_test (ev_is (ev_op (ev_var rfl) (ev_var rfl) (rv_ixL (sq_of gs') (atI_nat (marks_at _ ho)))) (by rw [decide_eq_false hmm]))), fun _ H6 e6 => ?_, (fun h => nomatch h)⟩
            have nd2 : ((ringsL ds i).flatten ++ track ds i (j + 1)).Nodup := by
              rw [track_succ, ← List.append_assoc]
              refine List.nodup_append.mpr ⟨nd, List.pairwise_singleton _ _, fun x hx y hy e => ?_⟩
              rw [List.mem_singleton.mp hy] at e
              exact hmm (e ▸ hx)
            have lt2 : ((ringsL ds i).flatten ++ track ds i (j + 1)).length ≤ ds.length := by
              refine nlen_le nd2 fun x hx => ?_
              rcases List.mem_append.mp hx with h | h
              · exact rg.lt x h
              · obtain ⟨t, _, rfl⟩ := List.mem_map.mp h
                exact orb_lt hs hi' t
            rw [List.length_append, track_length] at lt2
            refine ⟨_, fun σ2 H2 h => ⟨m - 1, by omega, h⟩, ?_⟩
            refine q_setL (j := orb ds i j) (e6 _ _ gs') ev_c (ev_var rfl) (ev_var rfl) (by rw [marks_length]; exact ho) fun H7 e7 => ?_
            refine q_app (xs := vi (up (track ds i j))) ?_ (ev_var rfl) (ev_var rfl) (by rw [List.length_map, up_length, track_length]; omega) fun H8 e8 => ?_
            · rw [upd_ne nrs]
              exact e7 _ _ (e6 _ _ gr')
            have eA : Ex H (upd H7 ps (.lst (marks ds.length ((ringsL ds i).flatten ++ track ds i j ++ [orb ds i j])))) := ((e'.trans e6).trans e7).mut fs
            rw [marks_set _ ho] at e8
            refine s_asg (ev_op (ev_var rfl) (ev_var rfl) (rv_ixT (ex_t ((eA.trans e8).mut fr) hA) (atI_nat (nx_at hs ho)))) fun H9 e9 => ?_
            refine ⟨j + 1, rfl, (((eA.trans e8).mut fr).trans e9), ?_, ?_, ?_, ?_, nd2, by omega⟩
            · refine e9 _ _ ?_
              rw [upd_ne (Ne.symm nrf)]
              refine e8 _ _ ?_
              rw [upd_ne (Ne.symm nsf)]
              exact e7 _ _ (e6 _ _ gf')
            · refine e9 _ _ ?_
              rw [upd_ne (Ne.symm nrs)]
              refine e8 _ _ ?_
              rw [upd_same, track_succ, List.append_assoc]
            · refine e9 _ _ ?_
              rw [upd_same, track_succ]
              unfold up vi
              simp only [List.map_append]
              rfl
            · refine ((((((ne'.ex e6).ex e7).upd fun q hq => (nq q hq).2.1).ex e8).upd nrq).ex e9)
    · rintro σ' H' ⟨qs, y3, y4, y5, rfl, e, gf, gs, ne, nq, rg⟩
      rw [Int.toNat_natCast] at gs ne rg
      refine s_ret (ev_var rfl) fun H3 e3 => ?_
      exact q rg pf qs H3 f1 (e.trans e3) (e3 _ _ gf) (ne.ex e3) fun b hb => (nq b hb).2.2
/-! ### _law_well -/
def sp_law_well (K : PySem.W.Frag) : Sp := fun vs H Q _ => ∃ (a : Addr) (ns : List Int) (k : Int), vs = [.ref a, .int k] ∧ SqL K H a (vi ns) ∧ 0 ≤ k ∧ k ≤ 63 ∧ ∀ p H2, H p = none → Ex H H2 → Well H2 p 0 → Q (.ref p) H2
theorem ok_law_well (T : Txt K mg) : FnG PP w K mg base CX0 3 T.a_law_well T.d_law_well ["script", "k"] (sp_law_well K) := by
  refine okG T.F_law_well sc_law_well (fun vs H Q E h => ?_) (fun cdv A out s H vs Q E hr h => ?_)
  · obtain ⟨a, ns, k, rfl, hS, h0, h1, q⟩ := h
    rfl
  · obtain ⟨a, ns, k, rfl, hS, h0, h1, q⟩ := h
    refine ⟨_, (pss_cons (ps_set (i := 2) sc_law_well.nd rfl (.inl rfl) (pe_ifExp (pt_cmpR op_lt (pv 1) (pe_callB (call_lenK (K := K) rfl) (by rfl) T.z_len bt_len (pa_cons (pv 0) pa_nil)) (nomark _)) (pe_callB call_abs (by rfl) T.z_abs bt_abs (pa_cons (pe_callTy call_int1 (by rfl) T.z_int bt_int (pa_cons (pe_ix (ix_listK (K := K) rfl) (pv 0) (pv 1) (fun _ _ => rfl)) pa_nil)) pa_nil)) (pe_op op_mul pe_int (pv 1))))
    (pss_one (ps_ret (pe_lst (pa_cons (pe_callB (call_max2 rfl) (by rfl) T.z_max bt_max (pa_cons pe_int (pa_cons (pe_op op_sub (pv 2) (pe_op op_powW pe_int pe_int)) pa_nil))) (pa_cons (pe_op op_add (pe_op op_add (pe_op op_mod (pe_callTy call_int1 (by rfl) T.z_int bt_int (pa_cons (pv 2) pa_nil)) (pe_op op_add (pe_op op_powW pe_int pe_int) pe_int)) (pe_op op_mul pe_int (pv 1))) pe_int) (pa_cons pe_int pa_nil))))))), ?_⟩
    refine q_asg (v := .int (if k < (ns.length : Int) then (if ns.getD k.toNat 0 < 0 then -ns.getD k.toNat 0 else ns.getD k.toNat 0) else 41 * k)) ?_ fun H1 e1 => ?_
    · by_cases hk : k < ns.length
      · obtain ⟨j, rfl⟩ : ∃ j : Nat, k = j := ⟨k.toNat, by omega⟩
        have hj : j < ns.length := by omega
        have hx : (vi ns)[j]? = some (.int (ns.getD j 0)) := by
          rw [vi_at hj, List.getD_eq_getElem?_getD, List.getElem?_eq_getElem hj]
          rfl
        rw [if_pos hk]
        exact ev_if (b := true) (et_test (ev_op (ev_var rfl) (ev_len (ev_var rfl) hS) (rv_b (decide_eq_true (by rw [List.length_map]; exact hk))))) (fun _ => ev_abs (ev_int1 (ev_op (ev_var rfl) (ev_var rfl) (rv_ixL hS (atI_nat hx))))) (fun h => nomatch h)
      · rw [if_neg hk]
        exact ev_if (b := false) (et_test (ev_op (ev_var rfl) (ev_len (ev_var rfl) hS) (rv_b (decide_eq_false (by rw [List.length_map]; exact hk))))) (fun h => nomatch h) (fun _ => ev_op ev_c (ev_var rfl) (rv_I (cml (by decide))))
    generalize (if k < (ns.length : Int) then (if ns.getD k.toNat 0 < 0 then -ns.getD k.toNat 0 else ns.getD k.toNat 0) else 41 * k) = cell
    refine s_retL (xs := [_, _, _]) (el_lst (ea_cons (ev_max2 ev_c (ev_op (ev_var rfl) (ev_op ev_c ev_c (rv_I (cpw (by decide) (by decide) (by decide)))) rv_I0)) (ea_cons (ev_op (ev_op (ev_op (ev_int1 (ev_var rfl)) (ev_op (ev_op ev_c ev_c (rv_I (cpw (by decide) (by decide) (by decide)))) ev_c rv_I0) (rv_I (by have := p10_pos (Int.toNat 36); omega))) (ev_op ev_c (ev_var rfl) (rv_I (cml (by decide)))) rv_I0) ev_c rv_I0) (ea_cons ev_c ea_nil))) (by show 3 ≤ 100000; decide)) fun p H2 hp e2 h2 => ?_
    refine q p H2 (fresh_back e1 hp) (e1.trans e2) ⟨_, _, _, h2, ?_, ?_, by decide, by decide⟩
    · have := Int.emod_nonneg cell (show (10 : Int) ^ Int.toNat 36 + 67 ≠ 0 by have := p10_pos (Int.toNat 36); omega)
      omega
    · have := Int.emod_lt_of_pos cell (show (0 : Int) < 10 ^ Int.toNat 36 + 67 by have := p10_pos (Int.toNat 36); omega)
      have e : (10 : Int) ^ Int.toNat 36 = 1000000000000000000000000000000000000 := by decide
      omega
/-! ### check_rule -/
def sp_check_rule (K : PySem.W.Frag) : Sp := fun vs H Q _ => ∃ (r : Addr) (ts : List Tm), vs = [.ref r] ∧ Rul H r ts ∧ 0 < ts.length ∧ ts.length ≤ 12 ∧ (∀ t ∈ ts, TmOk t) ∧ RetV .non H Q
theorem v_check_rule {K : PySem.W.Frag} {H : Hp} {r : Addr} {ts : List Tm} (h : Rul H r ts) (h0 : 0 < ts.length) (h1 : ts.length ≤ 12) (ok : ∀ t ∈ ts, TmOk t) : SpV (sp_check_rule K) [.ref r] H .non := fun H1 e Q q E => ⟨r, ts, rfl, h.ex e, h0, h1, ok, q⟩
theorem ok_check_rule (T : Txt K mg) : FnG PP w K mg base CX0 4 T.a_check_rule T.d_check_rule ["rule"] (sp_check_rule K) := by
  refine okG T.F_check_rule sc_check_rule (fun vs H Q E h => ?_) (fun cdv A out s H vs Q E hr h => ?_)
  · obtain ⟨r, ts, rfl, hR, h0, h12, ok, q⟩ := h
    rfl
  · obtain ⟨r, ts, rfl, hR, h0, h12, ok, q⟩ := h
    refine ⟨_, (pss_cons (ps_if (PW.pt (pw_or (pt_not (pt_val (pe_callB (call_isiK' (K := K) rfl) (by rfl) T.z_isinstance bt_isinstance (pa_cons (pv 0) (pa_cons (pe_bltn (v := .ty "list") (by rfl) T.z_list bt_list rfl) pa_nil))))) (pw_or1 (pt_cmpR op_eq (pe_callB (call_lenK (K := K) rfl) (by rfl) T.z_len bt_len (pa_cons (pv 0) pa_nil)) pe_int (nomark _)))))
      (pss_one ps_never)
      pss_nil)
    (pss_one (ps_for PassesOwn.never rfl (pi_enum (by rfl) T.z_enumerate (pa_cons (pv 0) pa_nil)) (pg_tup rfl (pgs_cons (pg_name (i := 1) sc_check_rule.nd rfl (.inl rfl)) (pgs_cons (pg_name (i := 2) sc_check_rule.nd rfl (.inl rfl)) pgs_nil)))
      (pss_one (ps_if (PW.pt (pw_or (pt_cmpR op_ge (pv 1) (pe_glob (v := .int 12) rfl T.c_MOST_TERMS ⟨_, rfl⟩) (nomark _)) (pw_or1 (pt_not (pt_val (callG (ok_is_term T) (hr.mono (by decide)) (by rfl) T.g_is_term T.F_is_term.kp (b_is_term T) .nil pass0 (pa_cons (pv 2) pa_nil)))))))
        (pss_one ps_never)
        pss_nil))))), ?_⟩
    obtain ⟨as, g, la, f⟩ := id hR
    refine q_when (b := false) (et_or (a := false) (b := false) (et_not (a := true) (et_B (ev_isi (ev_var rfl) (fun H1 e => ty_seql (sq_of (e _ _ g))) kb_list_list))) fun _ => et_is (et_test (ev_op (ev_len (ev_var rfl) (sq_of g)) ev_c (rv_eq rfl))) ?_) (fun h => nomatch h) (fun _ H1 e1 => ?_)
    · exact decide_eq_false fun z => by
        have z' : ((as.map V.ref).length : Int) = 0 := V.int.inj z
        rw [List.length_map] at z'
        omega
    refine s_forEn (ev_var rfl) (sq_of (e1 _ _ g)) (fun i σ' H' => ∃ y1 y2, σ' = [some (.ref r), y1, y2] ∧ Ex H H') (fun H2 e2 => ⟨none, none, rfl, e1.trans e2⟩) ?_ ?_ ?_
    · rintro i σ' H' _ ⟨_, _, _, e⟩
      exact sq_of (e _ _ g)
    · rintro i x σ' H' hx ⟨y1, y2, rfl, e⟩ H2 e2
      rw [List.getElem?_map] at hx
      cases hg : as[i]? with
      | none =>
        rw [hg] at hx
        cases hx
      | some a =>
        rw [hg] at hx
        cases hx
        have hi := (List.getElem?_eq_some_iff.mp hg).1
        have ht : ts[i]? = some (ts[i]'(by omega)) := List.getElem?_eq_getElem _
        refine s_when (b := false) (et_or (a := false) (b := false) (et_is (et_test (ev_op (ev_var rfl) ev_c rv_I0)) (decide_eq_false (by omega))) fun _ => et_not (a := true) (et_B (ev_call (ea_cons (ev_var rfl) ea_nil) (v_is_term (st_of ((e.trans e2) _ _ (f i a _ hg ht))) (ok _ (List.getElem_mem _)))))) (fun h => nomatch h) (fun _ H3 e3 => ?_)
        exact ⟨_, _, rfl, (e.trans e2).trans e3⟩
    · rintro σ' H' ⟨_, _, _, e⟩
      exact q H' e
/-! ### Live.lay -/
def sp_Live_lay (T : Txt K mg) : Sp := fun vs H Q E => ∃ (p l1 l2 : Addr) (cs : List Int) (c : Int), vs = [.ref p, .int c] ∧ Liv T.a_Live H p l1 l2 cs ∧ cs.length ≤ 3900 ∧ (0 ≤ c → ∀ H', Off [l1, l2] H H' → Liv T.a_Live H' p l1 l2 (cs ++ [c]) → Q .non H') ∧ (c < 0 → ∀ H1, Ex H H1 → E (.ref T.a_NoCount) none H1)
theorem ok_Live_lay (T : Txt K mg) : FnG PP w K mg base (L2.CX PP w) 4 T.a_Live_lay T.d_Live_lay ["self", "count"] (sp_Live_lay T) := by
  refine bodyG T.F_Live_lay sc_Live_lay (fun vs H Q E h => ?_) (fun cdv A out s H vs Q E hr h => ?_)
  · obtain ⟨p, l1, l2, cs, c, rfl, hL, hl, q1, q2⟩ := h
    rfl
  · obtain ⟨p, l1, l2, cs, c, rfl, hL, hl, q1, q2⟩ := h
    refine ⟨_, (pss_cons (ps_if (PW.pt (pw_or (pt_not (pt_val (callG (ok_is_whole T) (hr.mono (by decide)) (by rfl) T.g_is_whole T.F_is_whole.kp (b_is_whole T) .nil pass0 (pa_cons (pv 1) pa_nil)))) (pw_or1 (pt_cmpR op_lt (pv 1) pe_int (nomark _)))))
      (pss_one (ps_raise rfl (takes_of rfl rfl rfl rfl) (pmk_own F.excBase_ValueError T.x_NoCount T.e_NoCount.g T.e_NoCount.k (raises_own T.e_NoCount.ex.hs T.e_NoCount.t) rfl)))
      pss_nil)
    (pss_cons (ps_asg (pe_methG0 (pv 0) T.cl_Live T.m_Live_coming (ok_Live_coming T) (hr.mono (by decide)) (b_Live_coming T) pass0) (pg_tup rfl (pgs_cons (pg_name (i := 2) sc_Live_lay.nd rfl (.inl rfl)) (pgs_cons (pg_name (i := 3) sc_Live_lay.nd rfl (.inl rfl)) pgs_nil))))
    (pss_one (ps_expr (pe_methG (pv 0) T.cl_Live T.m_Live_put (ok_Live_put T) (hr.mono (by decide)) (b_Live_put T) pass0 (pa_cons (pe_op op_add (pv 2) (pe_op op_mul (pv 3) (pv 1))) (pa_cons (pv 1) pa_nil))))))), ?_⟩
    obtain ⟨⟨dx, hp⟩, g1, g2, ne, nn⟩ := id hL
    have n1 := ins_lst hp g1
    have n2 := ins_lst hp g2
    by_cases c0 : 0 ≤ c
    · have q := q1 c0
      refine q_when (b := false) (et_or (a := false) (b := false) (et_not (a := true) (et_B (ev_call (ea_cons (ev_var rfl) ea_nil) (v_is_whole c)))) fun _ => et_is (et_test (ev_op (ev_var rfl) ev_c (rv_b rfl))) (decide_eq_false (by omega))) (fun h => nomatch h) fun _ H0 e0 => ?_
      refine q_tupU (eu_meth (ev_var rfl) (e0 _ _ hp) (lf_no _ _ (by decide +kernel) (by decide +kernel)) ea_nil (u_coming T (hL.ex e0) (by omega))) fun H1 e1 => ?_
      have e := e0.trans e1
      refine s_meth (ev_var rfl) (e _ _ hp) (lf_no _ _ (by decide +kernel) (by decide +kernel)) (ea_cons (ev_op (ev_var rfl) (ev_op (ev_var rfl) (ev_var rfl) (rv_I (cml (by unfold stp; omega)))) rv_I0) (ea_cons (ev_var rfl) ea_nil)) fun H2 e2 => ?_
      have e02 := e.trans e2
      refine ⟨p, l1, l2, dx, rowL cs, cs, _, _, rfl, e02 _ _ hp, e02 _ _ g1, e02 _ _ g2, ne, by rw [rowL_length]; omega, by omega, fun H' o h1 h2 => q H' ((Off.ex e02).trans o) ⟨⟨dx, o _ _ (by simp [n1, n2]) (e02 _ _ hp)⟩, by rw [rowL_snoc]; exact h1, h2, ne, fun z hz => ?_⟩⟩
      rcases List.mem_append.mp hz with h | h
      · exact nn z h
      · rw [List.mem_singleton.mp h]
        exact c0

    · exact q_when (b := true) (et_or (a := false) (b := true) (et_not (a := true) (et_B (ev_call (ea_cons (ev_var rfl) ea_nil) (v_is_whole c)))) fun _ => et_is (et_test (ev_op (ev_var rfl) ev_c (rv_b rfl))) (decide_eq_true (by omega))) (fun _ H0 e0 => q2 (by omega) H0 e0) (fun h => nomatch h)
/-! ### Live.undo -/
def sp_Live_undo (T : Txt K mg) : Sp := fun vs H Q E => ∃ (p l1 l2 : Addr) (cs : List Int), vs = [.ref p] ∧ Liv T.a_Live H p l1 l2 cs ∧ (∀ ds c, cs = ds ++ [c] → ∀ H', Off [l1, l2] H H' → Liv T.a_Live H' p l1 l2 ds → Q .non H') ∧ (cs = [] → ∀ H1, Ex H H1 → E (.ref T.a_NothingToUndo) none H1)
theorem ok_Live_undo (T : Txt K mg) : FnG PP w K mg base (L2.CX PP w) 4 T.a_Live_undo T.d_Live_undo ["self"] (sp_Live_undo T) := by
  refine bodyG T.F_Live_undo sc_Live_undo (fun vs H Q E h => ?_) (fun cdv A out s H vs Q E hr h => ?_)
  · obtain ⟨p, l1, l2, cs, rfl, hL, q1, q2⟩ := h
    rfl
  · obtain ⟨p, l1, l2, cs, rfl, hL, q1, q2⟩ := h
    refine ⟨_, (pss_cons (ps_if (pt_cmpR op_eq (pe_callB (call_lenK (K := K) rfl) (by rfl) T.z_len bt_len (pa_cons (pe_fld (pv 0) rfl) pa_nil)) pe_int (nomark _))
      (pss_one (ps_raise rfl (takes_of rfl rfl rfl rfl) (pmk_own F.excBase_ValueError T.x_NothingToUndo T.e_NothingToUndo.g T.e_NothingToUndo.k (raises_own T.e_NothingToUndo.ex.hs T.e_NothingToUndo.t) rfl)))
      pss_nil)
    (pss_cons (ps_expr (pe_bm0 PySem.F.plainAttrs_list PySem.F.slot_list_pop PySem.F.type_list_pop mt_pop (pe_fld (pv 0) rfl)))
    (pss_one (ps_expr (pe_bm0 PySem.F.plainAttrs_list PySem.F.slot_list_pop PySem.F.type_list_pop mt_pop (pe_fld (pv 0) rfl)))))), ?_⟩
    obtain ⟨⟨dx, hp⟩, g1, g2, ne, nn⟩ := id hL
    have n1 := ins_lst hp g1
    have n2 := ins_lst hp g2
    have rl := rowL_length cs
    rcases List.eq_nil_or_concat cs with rfl | ⟨ds, c, rfl⟩
    · exact q_when (b := true) (et_is (et_test (ev_op (ev_len (ev_fld (ev_var rfl) hp T.cl_Live T.n_Live_numbers (lf_n _ _)) (sq_of g1)) ev_c (rv_eq rfl))) rfl) (fun _ H0 e0 => q2 rfl H0 e0) (fun h => nomatch h)
    · rw [List.concat_eq_append] at *
      rw [List.length_append] at rl
      refine q_when (b := false) (et_is (et_test (ev_op (ev_len (ev_fld (ev_var rfl) hp T.cl_Live T.n_Live_numbers (lf_n _ _)) (sq_of g1)) ev_c (rv_eq rfl))) (decide_eq_false fun z => by have := V.int.inj z; rw [List.length_map, rl] at this; simp at this; omega)) (fun h => nomatch h) fun _ H0 e0 => ?_
      rw [rowL_snoc, ← vi_app] at g1
      rw [← vi_app] at g2
      refine q_pop (l := l1) (ev_fld (ev_var rfl) (e0 _ _ hp) T.cl_Live T.n_Live_numbers (lf_n _ _)) (e0 _ _ g1) fun H1 e1 => ?_
      refine s_pop (l := l2) (xs := vi ds) (ev_fld (ev_var rfl) (by rw [upd_ne n1]; exact (e0.trans e1) _ _ hp) T.cl_Live T.n_Live_counts (lf_c _ _)) (by rw [upd_ne ne.symm]; exact (e0.trans e1) _ _ g2) fun H2 e2 => ?_
      have off : Off [l1, l2] H (upd H2 l2 (.lst (vi ds))) := fun b o nb h => by
        rw [upd_ne fun z => nb (by rw [z]; simp)]
        refine e2 _ _ ?_
        rw [upd_ne fun z => nb (by rw [z]; simp)]
        exact (e0.trans e1) _ _ h
      refine q1 ds c rfl _ off ⟨⟨dx, off _ _ (by simp [n1, n2]) hp⟩, ?_, upd_same, ne, fun z hz => nn z (List.mem_append_left _ hz)⟩
      rw [upd_ne ne]
      exact e2 _ _ upd_same
/-! ### new_numbers -/
def sp_new_numbers (K : PySem.W.Frag) : Sp := fun vs H Q _ => ∃ (a : Addr) (r : List Int), vs = [.ref a] ∧ SqL K H a (vi r) ∧ 0 < r.length ∧ r.length ≤ 4000 ∧ RetL (vi (newL r)) H Q
theorem l_new_numbers {K : PySem.W.Frag} {H : Hp} {a : Addr} {r : List Int} (h : SqL K H a (vi r)) (h0 : 0 < r.length) (h1 : r.length ≤ 4000) : SpL (sp_new_numbers K) [.ref a] H (vi (newL r)) := fun H1 e Q q E => ⟨a, r, rfl, ex_l e h, h0, h1, q⟩
theorem ok_new_numbers (T : Txt K mg) : FnG PP w K mg base CX0 4 T.a_new_numbers T.d_new_numbers ["row"] (sp_new_numbers K) := by
  refine okG T.F_new_numbers sc_new_numbers (fun vs H Q E h => ?_) (fun cdv A out s H vs Q E hr h => ?_)
  · obtain ⟨a, r, rfl, hS, h0, h1, q⟩ := h
    rfl
  · obtain ⟨a, r, rfl, hS, h0, h1, q⟩ := h
    refine ⟨_, (pss_cons (ps_expr (callG (ok_check_row T) (hr.mono (by decide)) (by rfl) T.g_check_row T.F_check_row.kp (b_check_row T) .nil pass0 (pa_cons (pv 0) pa_nil)))
    (pss_cons (ps_set (i := 1) sc_new_numbers.nd rfl (.inl rfl) (pe_callB (call_lenK (K := K) rfl) (by rfl) T.z_len bt_len (pa_cons (pv 0) pa_nil)))
    (pss_cons (ps_set (i := 2) sc_new_numbers.nd rfl (.inl rfl) (pe_callTy (call_listK (K := K) rfl) (by rfl) T.z_list bt_list (pa_cons (pv 0) pa_nil)))
    (pss_cons (ps_for PassesOwn.never rfl (pi_range2 (by rfl) T.z_range (pa_cons pe_int (pa_cons (pe_op op_add (pv 1) pe_int) pa_nil))) (pg_name (i := 3) sc_new_numbers.nd rfl (.inl rfl))
      (pss_one (ps_for PassesOwn.never rfl (pi_range3 (by rfl) T.z_range (pa_cons (pe_op op_mul pe_int (pv 3)) (pa_cons (pe_op op_add (pv 1) pe_int) (pa_cons (pv 3) pa_nil)))) (pg_name (i := 4) sc_new_numbers.nd rfl (.inl rfl))
        (pss_one (ps_augS (pv 2) (pe_op op_sub (pv 4) pe_int) pget_list (pe_ix (ix_listK (K := K) rfl) (pv 2) (pe_op op_sub (pv 3) pe_int) (fun _ _ => rfl)) ip_sub set_list)))))
    (pss_one (ps_ret (pv 2))))))), ?_⟩
    refine q_drop (ev_call (ea_cons (ev_var rfl) ea_nil) (v_check_row hS h0 h1)) fun H1 e1 => ?_
    refine q_asg (v := .int (r.length : Int)) (ev_is (ev_len (ev_var rfl) (ex_l e1 hS)) (by rw [List.length_map])) fun H2 e2 => ?_
    refine q_asgL (el_list (ev_var rfl) (ex_l (e1.trans e2) hS)) fun pn H3 f3 e3 h3 => ?_
    have fp : H pn = none := fresh_back (e1.trans e2) f3
    refine q_forR2 (lo := 1) (n := (r.length : Int) + 1) (ea_cons ev_c (ea_cons (ev_op (ev_var rfl) ev_c rv_I0) ea_nil)) (by omega)
      (fun k σ' H' => ∃ (y3 y4 : Option V), σ' = [some (.ref a), some (.int (r.length : Int)), some (.ref pn), y3, y4] ∧ Ex H H' ∧ H' pn = some (.lst (vi (tabL r.length (sub r k))))) ?_ ?_ ?_
    · intro H4 e4
      refine ⟨_, _, rfl, ((e1.trans e2).trans e3).trans e4, ?_⟩
      have e5 : tabL r.length (sub r 0) = r := tab_self r
      rw [e5]
      exact e4 _ _ h3
    · rintro k σ' H' hk ⟨y3, y4, rfl, e, g⟩
      have hk' : k < r.length := by omega
      have e1k : (1 : Int) + (k : Int) = ((k + 1 : Nat) : Int) := by omega
      rw [e1k]
      refine s_forR3G (lo := 2 * ((k + 1 : Nat) : Int)) (j := (r.length : Int) + 1) (c := ((k + 1 : Nat) : Int)) (ea_cons (ev_op ev_c (ev_var rfl) (rv_I (cml (by decide)))) (ea_cons (ev_op (ev_var rfl) ev_c rv_I0) (ea_cons (ev_var rfl) ea_nil))) (by omega) (by omega) (by omega) (by omega) (by omega) (by omega)
        (fun t σ' H' => ∃ (y4 : Option V), σ' = [some (.ref a), some (.int (r.length : Int)), some (.ref pn), some (.int ((k + 1 : Nat) : Int)), y4] ∧ Ex H H' ∧ H' pn = some (.lst (vi (tabL r.length fun i => sub r k i - (if k < i ∧ (i + 1) % (k + 1) = 0 ∧ (i + 1) / (k + 1) ≤ t + 1 then sub r k k else 0))))) ?_ ?_ ?_
      · intro H4 e4
        refine ⟨_, rfl, e.trans e4, ?_⟩
        rw [e4 _ _ g]
        congr 3
        refine tab_congr fun i hi => ?_
        rw [if_neg]
        · omega
        · rintro ⟨h1, h2, h3⟩
          have e := Nat.div_add_mod (i + 1) (k + 1)
          rw [h2] at e
          have : (k + 1) * ((i + 1) / (k + 1)) ≤ (k + 1) * 1 := Nat.mul_le_mul_left _ (by omega)
          omega
      · rintro t σ'' H'' ht ⟨y4, rfl, e', g'⟩
        have ej : 2 * ((k + 1 : Nat) : Int) + (t : Int) * ((k + 1 : Nat) : Int) = (((k + 1) * (t + 1 + 1) : Nat) : Int) := by
          rw [Int.natCast_mul, ← Int.add_mul, Int.mul_comm]
          congr 1
          omega
        rw [ej] at ht ⊢
        have hpos : 0 < (k + 1) * (t + 1 + 1) := Nat.mul_pos (Nat.succ_pos k) (Nat.succ_pos _)
        have hge : (k + 1) * 2 ≤ (k + 1) * (t + 1 + 1) := Nat.mul_le_mul_left _ (by omega)
        obtain ⟨m1, m2⟩ := mul_mod (n := k + 1) (t := t + 1) (Nat.succ_pos k)
        generalize hj : (k + 1) * (t + 1 + 1) = M at *
        refine s_augL (j := M - 1) (f := fun i j => i - j) (a := sub r k (M - 1)) (b := sub r k k) (ev_var rfl) (ev_is (ev_op (ev_var rfl) ev_c rv_I0) (by congr 1; omega)) g' (by
          rw [tab_at (by omega), if_neg]
          · rw [Int.sub_zero]
          · rintro ⟨_, _, z⟩
            omega) (ev_op (ev_var rfl) (ev_is (ev_op (ev_var rfl) ev_c rv_I0) (by show V.int (((k + 1 : Nat) : Int) - 1) = .int ((k : Nat) : Int); congr 1; omega)) (rv_ixL (sq_of g') (atI_nat (by
            rw [tab_at hk', if_neg (fun z => Nat.lt_irrefl _ z.1), Int.sub_zero])))) fun H4 e4 => ?_
        refine ⟨_, rfl, (e'.trans e4).mut fp, ?_⟩
        rw [upd_same, vi_set, tab_set (by omega)]
        congr 3
        refine tab_congr fun i hi => ?_
        by_cases c : i = M - 1
        · rw [if_pos c, c, if_pos ⟨by omega, m1, by omega⟩]
        · rw [if_neg c]
          by_cases d : k < i ∧ (i + 1) % (k + 1) = 0
          · have hx := mul_ix (n := k + 1) (t := t + 1) (Nat.succ_pos k) d.2
            rw [hj] at hx
            by_cases d2 : (i + 1) / (k + 1) ≤ t + 1
            · rw [if_pos ⟨d.1, d.2, d2⟩, if_pos ⟨d.1, d.2, by omega⟩]
            · rw [if_neg fun z => d2 z.2.2, if_neg fun z => (hx.mp z.2.2).elim d2 fun z => by omega]
          · rw [if_neg fun z => d ⟨z.1, z.2.1⟩, if_neg fun z => d ⟨z.1, z.2.1⟩]
      · rintro t σ'' H'' ht ⟨y4, rfl, e', g'⟩
        refine ⟨_, _, rfl, e', ?_⟩
        rw [g']
        congr 3
        refine tab_congr fun i hi => ?_
        show _ = sub r k i - (if k < i ∧ (i + 1) % (k + 1) = 0 then sub r k k else 0)
        by_cases d : k < i ∧ (i + 1) % (k + 1) = 0
        · have ej : 2 * ((k + 1 : Nat) : Int) + (t : Int) * ((k + 1 : Nat) : Int) = (((t + 1 + 1) * (k + 1) : Nat) : Int) := by
            rw [Int.natCast_mul, ← Int.add_mul]
            congr 1
            omega
          rw [ej] at ht
          have hlt : i + 1 < (t + 1 + 1) * (k + 1) := by
            generalize (t + 1 + 1) * (k + 1) = M at ht ⊢
            omega
          have hle : (i + 1) / (k + 1) < t + 1 + 1 := (Nat.div_lt_iff_lt_mul (Nat.succ_pos k)).mpr hlt
          rw [if_pos d, if_pos ⟨d.1, d.2, Nat.le_of_lt_succ hle⟩]
        · rw [if_neg d, if_neg fun z => d ⟨z.1, z.2.1⟩]
    · rintro σ' H' ⟨y3, y4, rfl, e, g⟩
      rw [show ((r.length : Int) + 1 - 1).toNat = r.length by omega] at g
      exact s_ret (ev_var rfl) fun H4 e4 => q pn H4 fp (e.trans e4) (e4 _ _ g)
/-! ### lengths -/
def sp_lengths (K : PySem.W.Frag) : Sp := fun vs H Q _ => ∃ (a : Addr) (ds : List Int), vs = [.ref a] ∧ SqT K H a (vi ds) ∧ Shf ds ∧ (Rings ds (ringsL ds ds.length) ds.length → RetL (vi (lensL ds)) H Q)
theorem l_lengths {K : PySem.W.Frag} {H : Hp} {a : Addr} {ds : List Int} (h : SqT K H a (vi ds)) (s : Shf ds) : SpL (sp_lengths K) [.ref a] H (vi (lensL ds)) :=
  fun H1 e Q q E => ⟨a, ds, rfl, ex_t e h, s, fun _ => q⟩
theorem ok_lengths (T : Txt K mg) : FnG PP w K mg base CX0 4 T.a_lengths T.d_lengths ["shuffle"] (sp_lengths K) := by
  refine okG T.F_lengths sc_lengths (fun vs H Q E h => ?_) (fun cdv A out s H vs Q E hr h => ?_)
  · obtain ⟨a, ds, rfl, hA, hs, q⟩ := h
    rfl
  · obtain ⟨a, ds, rfl, hA, hs, q⟩ := h
    refine ⟨_, (pss_cons (ps_expr (callG (ok_check_shuffle T) (hr.mono (by decide)) (by rfl) T.g_check_shuffle T.F_check_shuffle.kp (b_check_shuffle T) .nil pass0 (pa_cons (pv 0) pa_nil)))
    (pss_one (ps_ret (pe_callB cr_sortedI (by rfl) T.z_sorted bt_sorted (pa_cons (pe_lc (own := [("ring", 1)]) (g := gName 1) rfl sc_lengths.nd (pi_listK (K := K) rfl (callG (ok_rings_in T) (hr.mono (by decide)) (by rfl) T.g_rings_in T.F_rings_in.kp (b_rings_in T) .nil pass0 (pa_cons (pv 0) pa_nil))) (blkOk_by (own := [("ring", 1)]) (N := ["shuffle", "ring"]) (sc := defScope s_lengths) (by decide +kernel)) (fun _ _ _ _ _ => (pg_name (i := 1) sc_lengths.nd rfl (Or.inl rfl))) (fun _ _ _ _ _ => pts_nil) (fun _ _ _ _ _ => (pe_callB (call_lenK (K := K) rfl) (by rfl) T.z_len bt_len (pa_cons (pv 1) pa_nil)))) pa_nil))))), ?_⟩
    have h3 := hs.2.1
    have rg := rings_of hs
    refine q_drop (ev_call (ea_cons (ev_var rfl) ea_nil) (v_check_shuffle hA hs)) fun H1 e1 => ?_
    have hrl := rings_length rg
    refine s_retL (el_sortedN (el_is (el_lcN (R := ringsL ds ds.length) (fun _ => true) (fun i => V.int ((((ringsL ds ds.length).getD i []).length : Nat) : Int)) (en_call (ea_cons (ev_var rfl) ea_nil) (n_rings_in (ex_t e1 hA) hs)) (by omega) (fun _ => rfl) (fun _ _ _ _ _ _ _ => et_yes) ?_) ?_) (lens_perm ds) (lens_sorted ds)) fun p H2 hp e2 h2 => q rg p H2 (fresh_back e1 hp) (e1.trans e2) h2
    · intro i b r H2 e2 hr hb _
      rw [List.getD_eq_getElem?_getD, hr]
      exact ev_is (ev_len (ev_var rfl) (sq_of hb)) (by rw [List.length_map, up_length]; rfl)
    · rw [given_ints]
      unfold up
      rw [List.map_map]
      refine congrArg vi (List.ext_getElem? fun i => ?_)
      rw [List.getElem?_map, List.getElem?_map]
      by_cases hi : i < (ringsL ds ds.length).length
      · rw [List.getElem?_range hi, List.getElem?_eq_getElem hi]
        show some ((((ringsL ds ds.length).getD i []).length : Nat) : Int) = _
        rw [List.getD_eq_getElem?_getD, List.getElem?_eq_getElem hi]
        rfl
      · rw [List.getElem?_eq_none (by rw [List.length_range]; omega), List.getElem?_eq_none (by omega)]
        rfl
/-! ### shuffle_of -/
def sp_shuffle_of (K : PySem.W.Frag) : Sp := fun vs H Q _ => ∃ (a : Addr) (ns : List Int), vs = [.ref a] ∧ SqL K H a (vi ns) ∧ 0 < ns.length ∧ ns.length ≤ 300 ∧ (∀ n ∈ ns, 0 ≤ n) ∧ 1 ≤ ths ns ns.length ∧ ths ns ns.length ≤ 300 ∧ RetU (vi (dueL ns ns.length)) H Q
theorem u_shuffle_of {K : PySem.W.Frag} {H : Hp} {a : Addr} {ns : List Int} (h : SqL K H a (vi ns)) (h0 : 0 < ns.length) (h1 : ns.length ≤ 300) (hn : ∀ n ∈ ns, 0 ≤ n) (t1 : 1 ≤ ths ns ns.length) (t2 : ths ns ns.length ≤ 300) : SpU (sp_shuffle_of K) [.ref a] H (vi (dueL ns ns.length)) :=
  fun H1 e Q q E => ⟨a, ns, rfl, ex_l e h, h0, h1, hn, t1, t2, q⟩
theorem ok_shuffle_of (T : Txt K mg) : FnG PP w K mg base CX0 4 T.a_shuffle_of T.d_shuffle_of ["counts"] (sp_shuffle_of K) := by
  refine okG T.F_shuffle_of sc_shuffle_of (fun vs H Q E h => ?_) (fun cdv A out s H vs Q E hr h => ?_)
  · obtain ⟨a, ns, rfl, hS, h0, hl, hn, t1, t2, q⟩ := h
    rfl
  · obtain ⟨a, ns, rfl, hS, h0, hl, hn, t1, t2, q⟩ := h
    refine ⟨_, (pss_cons (ps_expr (callG (ok_check_counts T) (hr.mono (by decide)) (by rfl) T.g_check_counts T.F_check_counts.kp (b_check_counts T) .nil pass0 (pa_cons (pv 0) pa_nil)))
    (pss_cons (ps_expr (callG (ok_check_things T) (hr.mono (by decide)) (by rfl) T.g_check_things T.F_check_things.kp (b_check_things T) .nil pass0 (pa_cons (pe_callB (cr_sumK (K := K) rfl rfl) (by rfl) T.z_sum bt_sum (pa_cons (pe_lc (own := [("n", 2), ("count", 3)]) (g := g2 K 2 3) rfl sc_shuffle_of.nd (pi_enumC (c := 1) (by rfl) T.z_enumerate (pa_cons (pv 0) pa_nil)) (blkOk_by (own := [("n", 2), ("count", 3)]) (N := ["counts", "found", "n", "count", "_", "first", "k"]) (sc := defScope s_shuffle_of) (by decide +kernel)) (fun _ _ _ _ _ => (pg_tup rfl (pgs_cons (pg_name (i := 2) sc_shuffle_of.nd rfl (Or.inl rfl)) (pgs_cons (pg_name (i := 3) sc_shuffle_of.nd rfl (Or.inl rfl)) pgs_nil)))) (fun _ _ _ _ _ => pts_nil) (fun _ _ _ _ _ => (pe_op op_mul (pv 2) (pv 3)))) pa_nil)) pa_nil)))
    (pss_cons (ps_set (i := 1) sc_shuffle_of.nd rfl (.inl rfl) (pe_lst pa_nil))
    (pss_cons (ps_for PassesOwn.never rfl (pi_enumC (c := 1) (by rfl) T.z_enumerate (pa_cons (pv 0) pa_nil)) (pg_tup rfl (pgs_cons (pg_name (i := 2) sc_shuffle_of.nd rfl (.inl rfl)) (pgs_cons (pg_name (i := 3) sc_shuffle_of.nd rfl (.inl rfl)) pgs_nil)))
      (pss_one (ps_for PassesOwn.never rfl (pi_range1 (by rfl) T.z_range (pa_cons (pv 3) pa_nil)) (pg_name (i := 4) sc_shuffle_of.nd rfl (.inl rfl))
        (pss_cons (ps_set (i := 5) sc_shuffle_of.nd rfl (.inr rfl) (pe_callB (call_lenK (K := K) rfl) (by rfl) T.z_len bt_len (pa_cons (pv 1) pa_nil)))
        (pss_cons (ps_expr (pe_bm PySem.F.plainAttrs_list PySem.F.slot_list_extend PySem.F.type_list_extend mt_extend (pv 1) (pa_cons (pe_lc (own := [("k", 6)]) (g := gName 6) rfl sc_shuffle_of.nd (pi_range2 (by rfl) T.z_range (pa_cons pe_int (pa_cons (pv 2) pa_nil))) (blkOk_by (own := [("k", 6)]) (N := ["counts", "found", "n", "count", "_", "first", "k"]) (sc := defScope s_shuffle_of) (by decide +kernel)) (fun _ _ _ _ _ => (pg_name (i := 6) sc_shuffle_of.nd rfl (Or.inl rfl))) (fun _ _ _ _ _ => pts_nil) (fun _ _ _ _ _ => (pe_op op_add (pv 5) (pv 6)))) pa_nil)))
        (pss_one (ps_expr (pe_bm PySem.F.plainAttrs_list PySem.F.slot_list_append PySem.F.type_list_append mt_append (pv 1) (pa_cons (pv 5) pa_nil)))))))))
    (pss_one (ps_ret (pe_callTy (call_tupleK (K := K) rfl) (by rfl) T.z_tuple bt_tuple (pa_cons (pv 1) pa_nil)))))))), ?_⟩
    refine q_drop (ev_call (ea_cons (ev_var rfl) ea_nil) (v_check_counts hS h0 hn)) fun H1 e1 => ?_
    have hS1 := ex_l e1 hS
    refine q_drop (v := .non) (ev_call (ea_cons (ev_sumN (el_is (el_lcEnC (fun _ => true) (fun i => V.int ((1 + (i : Int)) * ns.getD i 0)) (ev_var rfl) hS1 (by rw [List.length_map]; omega) (fun _ _ => rfl) (fun _ _ _ _ _ => et_yes) ?_) (given_ints _ _))) ea_nil) ?_) fun H2 e2 => ?_
    · intro n x H2 e2 hx _
      obtain ⟨m, rfl, hm, hg⟩ := vi_inv hx
      rw [hg]
      have hlt := (List.getElem?_eq_some_iff.mp hm).1
      exact ev_op (ev_var rfl) (ev_var rfl) (rv_I (cml (by omega)))
    · rw [List.length_map, ths_sum]
      exact v_check_things t1 t2
    have hS2 := ex_l e2 hS1
    refine q_asgL (el_lst ea_nil (Nat.zero_le _)) fun p H3 np e3 hp => ?_
    have f3 : H p = none := fresh_back (e1.trans e2) np
    refine q_forEnC (c := 1) (ev_var rfl) (ex_l e3 hS2) (fun i σ' H' => ∃ y2 y3 y4 y5 y6, σ' = [some (.ref a), some (.ref p), y2, y3, y4, y5, y6] ∧ Ex H H' ∧ H' p = some (.lst (vi (dueL ns i)))) ?_ ?_ ?_ ?_
    · intro H4 e4
      exact ⟨_, _, _, _, _, rfl, ((e1.trans e2).trans e3).trans e4, e4 _ _ hp⟩
    · rintro i σ' H' _ ⟨_, _, _, _, _, _, e, _⟩
      exact ex_l e hS
    · rintro i x σ' H' hx ⟨y2, y3, y4, y5, y6, rfl, e, hq⟩ H4 e4
      obtain ⟨m, rfl, hm, hg⟩ := vi_inv hx
      obtain ⟨m0, m1, m2⟩ := count_le hn hm t2
      have hlt := (List.getElem?_eq_some_iff.mp hm).1
      refine s_forR1 (ea_cons (ev_var rfl) ea_nil) (by omega) (fun t σ' H' => ∃ y4 y5 y6, σ' = [some (.ref a), some (.ref p), some (.int (1 + (i : Int))), some (.int m), y4, y5, y6] ∧ Ex H H' ∧ H' p = some (.lst (vi (addR (i + 1) (dueL ns i) t)))) ?_ ?_ ?_
      · intro H5 e5
        exact ⟨_, _, _, rfl, (e.trans e4).trans e5, e5 _ _ (e4 _ _ hq)⟩
      · rintro t σ'' H'' ht ⟨z4, z5, z6, rfl, e', hq'⟩
        have hlen := addR_le hn hm t2 ht
        refine q_asg (ev_len (ev_var rfl) (sq_of hq')) fun H5 e5 => ?_
        rw [List.length_map]
        refine q_ext (e5 _ _ hq') (ev_var rfl) (el_is (el_lcR2 (lo := 1) (n := 1 + (i : Int)) (fun _ => true) (fun j => V.int (((addR (i + 1) (dueL ns i) t).length : Int) + (1 + (j : Int)))) (ea_cons ev_c (ea_cons (ev_var rfl) ea_nil)) (by omega) (fun _ => rfl) (fun _ _ _ _ => et_yes) (fun j H6 e6 _ _ => ev_op (ev_var rfl) (ev_var rfl) rv_I0)) (given_ints _ fun j => ((addR (i + 1) (dueL ns i) t).length : Int) + (1 + (j : Int)))) (by simp only [List.length_map, List.length_range]; omega) fun H6 e6 => ?_
        refine s_app upd_same (ev_var rfl) (ev_var rfl) (by simp only [List.length_append, List.length_map, List.length_range]; omega) fun H7 e7 => ?_
        refine ⟨_, _, _, rfl, Ex.mut ((Ex.mut ((e'.trans e5).trans e6) f3).trans e7) f3, ?_⟩
        rw [upd_same]
        congr 2
        show _ = vi (addR (i + 1) (dueL ns i) t ++ blk (addR (i + 1) (dueL ns i) t).length (i + 1))
        unfold blk
        rw [show (1 + (i : Int) - 1).toNat = i + 1 - 1 by omega]
        unfold vi
        rw [List.map_append, List.map_append, List.map_singleton, List.append_assoc]
      · rintro σ'' H'' ⟨z4, z5, z6, rfl, e', hq'⟩
        refine ⟨_, _, _, _, _, rfl, e', ?_⟩
        rw [hq']
        show _ = some (HO.lst (vi (addR (i + 1) (dueL ns i) (ns.getD i 0).toNat)))
        rw [hg]
    · rintro σ' H' ⟨y2, y3, y4, y5, y6, rfl, e, hq⟩
      rw [List.length_map] at hq
      exact s_retU (eu_tupOf (ev_var rfl) (sq_of hq)) fun r H5 hr e5 h5 => q r H5 (fresh_back e hr) (e.trans e5) h5
/-! ### Live.tell -/
theorem mc_some {cs : List Int} {m : Int} (h : mc cs m = true) : ∃ c, 0 ≤ c ∧ m = low cs + stp cs * c := by
  unfold mc at h
  rw [Bool.and_eq_true] at h
  have h1 := of_decide_eq_true h.1
  have h2 := of_decide_eq_true h.2
  have sp := stp_pos cs
  have e := Int.emod_add_mul_ediv (m - low cs) (stp cs)
  rw [h2, Int.zero_add] at e
  exact ⟨(m - low cs) / stp cs, Int.ediv_nonneg (by omega) (by omega), by omega⟩
def sp_Live_tell (T : Txt K mg) : Sp := fun vs H Q E => ∃ (p l1 l2 : Addr) (cs : List Int) (m : Int), vs = [.ref p, .int m] ∧ Liv T.a_Live H p l1 l2 cs ∧ cs.length ≤ 3900 ∧
  (∀ c, 0 ≤ c → m = low cs + stp cs * c → ∀ H', Off [l1, l2] H H' → Liv T.a_Live H' p l1 l2 (cs ++ [c]) → Q .non H') ∧
  (mc cs m = false → ∀ H1 d, Ex H H1 → H1 d = none → E (.ref T.a_Barred) (some d) (upd H1 d (.xd [(("n" : Str), .int (stp cs))])))
theorem ok_Live_tell (T : Txt K mg) : FnG PP w K mg base (L2.CX PP w) 5 T.a_Live_tell T.d_Live_tell ["self", "number"] (sp_Live_tell T) := by
  refine bodyG T.F_Live_tell sc_Live_tell (fun vs H Q E h => ?_) (fun cdv A out s H vs Q E hr h => ?_)
  · obtain ⟨p, l1, l2, cs, m, rfl, hL, hl, q1, q2⟩ := h
    rfl
  · obtain ⟨p, l1, l2, cs, m, rfl, hL, hl, q1, q2⟩ := h
    refine ⟨_, (pss_cons (ps_if (pt_not (pt_val (callG (ok_is_whole T) (hr.mono (by decide)) (by rfl) T.g_is_whole T.F_is_whole.kp (b_is_whole T) .nil pass0 (pa_cons (pv 1) pa_nil))))
      (pss_one (ps_raise rfl (takes_of rfl rfl rfl rfl) (pmk_own F.excBase_ValueError T.x_NoNumber T.e_NoNumber.g T.e_NoNumber.k (raises_own T.e_NoNumber.ex.hs T.e_NoNumber.t) rfl)))
      pss_nil)
    (pss_cons (ps_if (pt_not (pt_val (pe_methG (pv 0) T.cl_Live T.m_Live_may_come (ok_Live_may_come T) (hr.mono (by decide)) (b_Live_may_come T) pass0 (pa_cons (pv 1) pa_nil))))
      (pss_one (ps_raise rfl (takes_of rfl rfl rfl rfl) (pmk_sup T.s_Barred T.sb_Barred (hr.rm.mono (by decide)) rfl T.e_Barred.g (pa_cons (pe_op op_add (pe_callB (call_lenK (K := K) rfl) (by rfl) T.z_len bt_len (pa_cons (pe_fld (pv 0) rfl) pa_nil)) pe_int) pa_nil))))
      pss_nil)
    (pss_cons (ps_asg (pe_methG0 (pv 0) T.cl_Live T.m_Live_coming (ok_Live_coming T) (hr.mono (by decide)) (b_Live_coming T) pass0) (pg_tup rfl (pgs_cons (pg_name (i := 2) sc_Live_tell.nd rfl (.inl rfl)) (pgs_cons (pg_name (i := 3) sc_Live_tell.nd rfl (.inl rfl)) pgs_nil))))
    (pss_one (ps_expr (pe_methG (pv 0) T.cl_Live T.m_Live_put (ok_Live_put T) (hr.mono (by decide)) (b_Live_put T) pass0 (pa_cons (pv 1) (pa_cons (pe_op op_fdivW (pe_op op_sub (pv 1) (pv 2)) (pv 3)) pa_nil)))))))), ?_⟩
    obtain ⟨⟨dx, hp⟩, g1, g2, ne, nn⟩ := id hL
    have n1 := ins_lst hp g1
    have n2 := ins_lst hp g2
    refine q_when (b := false) (et_not (a := true) (et_B (ev_call (ea_cons (ev_var rfl) ea_nil) (v_is_whole _)))) (fun h => nomatch h) fun _ H0 e0 => ?_
    cases hm : mc cs m with
    | false =>
      refine q_when (b := true) (et_not (a := false) (et_B (ev_is (ev_meth (ev_var rfl) (e0 _ _ hp) (lf_no _ _ (by decide +kernel) (by decide +kernel)) (ea_cons (ev_var rfl) ea_nil) (v_may_come T (hL.ex e0) (by omega))) (by rw [hm])))) (fun _ H1 e1 => ?_) (fun h => nomatch h)
      exact mk_ev (ev_is (ev_op (ev_len (ev_fld (ev_var rfl) ((e0.trans e1) _ _ hp) T.cl_Live T.n_Live_numbers (lf_n _ _)) (sq_of ((e0.trans e1) _ _ g1))) ev_c rv_I0) (by rw [List.length_map, rowL_length, Int.add_comm]; rfl)) fun H3 d e3 hd => q2 hm H3 d ((e0.trans e1).trans e3) hd
    | true =>
      obtain ⟨c, c0, rfl⟩ := mc_some hm
      refine q_when (b := false) (et_not (a := true) (et_B (ev_is (ev_meth (ev_var rfl) (e0 _ _ hp) (lf_no _ _ (by decide +kernel) (by decide +kernel)) (ea_cons (ev_var rfl) ea_nil) (v_may_come T (hL.ex e0) (by omega))) (by rw [hm])))) (fun h => nomatch h) fun _ H1' e1' => ?_
      have e0' := e0.trans e1'
      refine q_tupU (eu_meth (ev_var rfl) (e0' _ _ hp) (lf_no _ _ (by decide +kernel) (by decide +kernel)) ea_nil (u_coming T (hL.ex e0') (by omega))) fun H1 e1 => ?_
      have e := e0'.trans e1
      have sp := stp_pos cs
      have q := q1 c c0 rfl
      · skip
        refine s_meth (ev_var rfl) (e _ _ hp) (lf_no _ _ (by decide +kernel) (by decide +kernel)) (ea_cons (ev_var rfl) (ea_cons (ev_is (ev_op (ev_op (ev_var rfl) (ev_var rfl) rv_I0) (ev_var rfl) (rv_I (cdw _ sp (by unfold stp; omega)))) (by rw [mc_div])) ea_nil)) fun H2 e2 => ?_
        have e02 := e.trans e2
        refine ⟨p, l1, l2, dx, rowL cs, cs, _, _, rfl, e02 _ _ hp, e02 _ _ g1, e02 _ _ g2, ne, by rw [rowL_length]; omega, by omega, fun H' o h1 h2 => q H' ((Off.ex e02).trans o) ⟨⟨dx, o _ _ (by simp [n1, n2]) (e02 _ _ hp)⟩, by rw [rowL_snoc]; exact h1, h2, ne, fun z hz => ?_⟩⟩
        rcases List.mem_append.mp hz with h | h
        · exact nn z h
        · rw [List.mem_singleton.mp h]
          exact c0
/-! ### Live.__contains__ -/
def sp_Live_contains (T : Txt K mg) : Sp := fun vs H Q _ => ∃ (p l1 l2 : Addr) (cs : List Int) (m : Int), vs = [.ref p, .int m] ∧ Liv T.a_Live H p l1 l2 cs ∧ cs.length ≤ 4000 ∧ RetV (.bl (mc cs m)) H Q
theorem v_contains (T : Txt K mg) {H : Hp} {p l1 l2 : Addr} {cs : List Int} {m : Int} (h : Liv T.a_Live H p l1 l2 cs) (hl : cs.length ≤ 4000) : SpV (sp_Live_contains T) [.ref p, .int m] H (.bl (mc cs m)) := fun H1 e Q q E => ⟨p, l1, l2, cs, m, rfl, h.ex e, hl, q⟩
theorem ok_Live_contains (T : Txt K mg) : FnG PP w K mg base CX0 5 T.a_Live_contains T.d_Live_contains ["self", "value"] (sp_Live_contains T) := by
  refine okG T.F_Live_contains sc_Live_contains (fun vs H Q E h => ?_) (fun cdv A out s H vs Q E hr h => ?_)
  · obtain ⟨p, l1, l2, cs, m, rfl, hL, hl, q⟩ := h
    rfl
  · obtain ⟨p, l1, l2, cs, m, rfl, hL, hl, q⟩ := h
    refine ⟨_, (pss_one (ps_ret (pe_and (callG (ok_is_whole T) (hr.mono (by decide)) (by rfl) T.g_is_whole T.F_is_whole.kp (b_is_whole T) .nil pass0 (pa_cons (pv 1) pa_nil)) (pe_one (pe_methG (pv 0) T.cl_Live T.m_Live_may_come (ok_Live_may_come T) (hr.mono (by decide)) (b_Live_may_come T) pass0 (pa_cons (pv 1) pa_nil)))))), ?_⟩
    obtain ⟨⟨dx, hp⟩, g1, g2, ne, nn⟩ := id hL
    exact s_ret (v := .bl (mc cs m)) (ev_is (ev_andV (a := true) (b := mc cs m) (ev_call (ea_cons (ev_var rfl) ea_nil) (v_is_whole m)) fun _ => ev_meth (ev_var rfl) hp (lf_no _ _ (by decide +kernel) (by decide +kernel)) (ea_cons (ev_var rfl) ea_nil) (v_may_come T hL hl)) (by rw [Bool.true_and])) fun H1 e1 => q H1 e1
/-! ### first_bar -/
def sp_first_bar (K : PySem.W.Frag) : Sp := fun vs H Q _ => ∃ (a : Addr) (r : List Int), vs = [.ref a] ∧ SqL K H a (vi r) ∧ 0 < r.length ∧ r.length ≤ 4000 ∧ RetB (bar r) H Q
theorem b_first_bar' {K : PySem.W.Frag} {H : Hp} {a : Addr} {r : List Int} (h : SqL K H a (vi r)) (h0 : 0 < r.length) (h1 : r.length ≤ 4000) : SpB (sp_first_bar K) [.ref a] H (bar r) := fun H1 e Q q E => ⟨a, r, rfl, ex_l e h, h0, h1, q⟩
theorem ok_first_bar (T : Txt K mg) : FnG PP w K mg base CX0 5 T.a_first_bar T.d_first_bar ["row"] (sp_first_bar K) := by
  refine okG T.F_first_bar sc_first_bar (fun vs H Q E h => ?_) (fun cdv A out s H vs Q E hr h => ?_)
  · obtain ⟨a, r, rfl, hS, h0, h1, q⟩ := h
    rfl
  · obtain ⟨a, r, rfl, hS, h0, h1, q⟩ := h
    refine ⟨_, (pss_cons (ps_for PassesOwn.never rfl (pi_enumC (c := 1) (by rfl) T.z_enumerate (pa_cons (callG (ok_new_numbers T) (hr.mono (by decide)) (by rfl) T.g_new_numbers T.F_new_numbers.kp (b_new_numbers T) .nil pass0 (pa_cons (pv 0) pa_nil)) pa_nil)) (pg_tup rfl (pgs_cons (pg_name (i := 1) sc_first_bar.nd rfl (.inl rfl)) (pgs_cons (pg_name (i := 2) sc_first_bar.nd rfl (.inl rfl)) pgs_nil)))
      (pss_cons (ps_if (pt_cmpR op_ne (pe_op op_mod (pv 2) (pv 1)) pe_int (nomark _))
        (pss_one (ps_ret (pe_tup (pa_cons (pv 1) (pa_cons pe_str pa_nil)))))
        pss_nil)
      (pss_one (ps_if (pt_cmpR op_lt (pv 2) pe_int (nomark _))
        (pss_one (ps_ret (pe_tup (pa_cons (pv 1) (pa_cons pe_str pa_nil)))))
        pss_nil))))
    (pss_one (ps_ret pe_non))), ?_⟩
    refine q_forNEnC (c := 1) (el_call (ea_cons (ev_var rfl) ea_nil) (l_new_numbers hS h0 h1)) (fun p i σ' H' => ∃ (y1 y2 : Option V), σ' = [some (.ref a), y1, y2] ∧ Ex H H' ∧ H' p = some (.lst (vi (newL r))) ∧ barF r i = none) ?_ ?_ ?_ ?_
    · intro p H1 _ e1 g1
      exact ⟨_, _, rfl, e1, g1, rfl⟩
    · rintro p i σ' H' _ ⟨y1, y2, rfl, e, g, _⟩
      exact sq_of g
    · rintro p i x σ' H' hx ⟨y1, y2, rfl, e, g, nb⟩ H1 e1
      have hi : i < r.length := by
        have := (List.getElem?_eq_some_iff.mp hx).1
        rw [List.length_map, newL_length] at this
        exact this
      rw [getD_at (by rw [newL_length]; exact hi)] at hx
      cases hx
      have e1i : (1 : Int) + (i : Int) = ((i + 1 : Nat) : Int) := by omega
      rw [e1i]
      refine q_when (b := decide (¬ (newL r).getD i 0 % ((i + 1 : Nat) : Int) = 0)) (et_is (et_test (ev_op (ev_op (ev_var rfl) (ev_var rfl) (rv_I (show (0 : Int) < ((i + 1 : Nat) : Int) by omega))) ev_c (rv_ne rfl))) (by simp)) (fun hb H2 e2 => ?_) (fun hb H2 e2 => ?_)
      · have c := of_decide_eq_true hb
        have hit : bar r = some (i + 1, ("rest" : Str)) := bar_hit nb (by unfold barAt; rw [if_pos c]) hi
        exact s_retBn (ev_var rfl) rfl (fun _ _ => ev_c) fun v H3 e3 h3 => q v H3 (((e.trans e1).trans e2).trans e3) (by rw [hit]; exact h3)
      · have c : (newL r).getD i 0 % ((i + 1 : Nat) : Int) = 0 := Decidable.of_not_not (of_decide_eq_false hb)
        refine s_when (b := decide ((newL r).getD i 0 < 0)) (et_test (ev_op (ev_var rfl) ev_c (rv_b rfl))) (fun hb2 H3 e3 => ?_) (fun hb2 H3 e3 => ?_)
        · have c2 := of_decide_eq_true hb2
          have hit : bar r = some (i + 1, ("below" : Str)) := bar_hit nb (by unfold barAt; rw [if_neg (not_not_intro c), if_pos c2]) hi
          exact s_retBn (ev_var rfl) rfl (fun _ _ => ev_c) fun v H4 e4 h4 => q v H4 ((((e.trans e1).trans e2).trans e3).trans e4) (by rw [hit]; exact h4)
        · have c2 := of_decide_eq_false hb2
          refine ⟨_, _, rfl, ((e.trans e1).trans e2).trans e3, e3 _ _ (e2 _ _ (e1 _ _ g)), ?_⟩
          rw [barF_next nb]
          unfold barAt
          rw [if_neg (not_not_intro c), if_neg c2]
          rfl
    · rintro p σ' H' ⟨y1, y2, rfl, e, g, nb⟩
      rw [List.length_map, newL_length] at nb
      exact s_ret ev_c fun H1 e1 => q .non H1 (e.trans e1) (by rw [show bar r = none from nb]; rfl)
/-! ### hole -/
def sp_hole (K : PySem.W.Frag) : Sp := fun vs H Q _ => ∃ (a : Addr) (r : List Int) (h : Nat), vs = [.ref a] ∧ SqL K H a (itV r h) ∧ h < r.length ∧ r.length ≤ 120 ∧ RetP (HolV (holeL r h)) H Q
theorem p_hole {K : PySem.W.Frag} {H : Hp} {a : Addr} {r : List Int} {h : Nat} (hS : SqL K H a (itV r h)) (hh : h < r.length) (h1 : r.length ≤ 120) : SpP (sp_hole K) [.ref a] H (HolV (holeL r h)) := fun H1 e Q q E => ⟨a, r, h, rfl, ex_l e hS, hh, h1, q⟩
theorem ok_hole (T : Txt K mg) : FnG PP w K mg base CX0 5 T.a_hole T.d_hole ["items"] (sp_hole K) := by
  refine okG T.F_hole sc_hole (fun vs H Q E h => ?_) (fun cdv A out s H vs Q E hr h => ?_)
  · obtain ⟨a, r, h, rfl, hS, hh, h1, q⟩ := h
    rfl
  · obtain ⟨a, r, h, rfl, hS, hh, h1, q⟩ := h
    refine ⟨_, (pss_cons (ps_expr (callG (ok_check_hole T) (hr.mono (by decide)) (by rfl) T.g_check_hole T.F_check_hole.kp (b_check_hole T) .nil pass0 (pa_cons (pv 0) pa_nil)))
    (pss_cons (ps_set (i := 1) sc_hole.nd rfl (.inl rfl) (callG (ok_new_numbers T) (hr.mono (by decide)) (by rfl) T.g_new_numbers T.F_new_numbers.kp (b_new_numbers T) .nil pass0 (pa_cons (pe_lc (own := [("item", 11)]) (g := gName 11) rfl sc_hole.nd (pi_listK (K := K) rfl (pv 0)) (blkOk_by (own := [("item", 11)]) (N := ["items", "fixed", "shares", "common", "rest", "step", "least", "first", "tops", "most", "last", "item", "new", "share"]) (sc := defScope s_hole) (by decide +kernel)) (fun _ _ _ _ _ => (pg_name (i := 11) sc_hole.nd rfl (Or.inl rfl))) (fun _ _ _ _ _ => pts_nil) (fun _ _ _ _ _ => (pe_ifExp (pt_cmpR op_isN (pv 11) pe_non (nomark _)) pe_int (pv 11)))) pa_nil)))
    (pss_cons (ps_set (i := 2) sc_hole.nd rfl (.inl rfl) (callG (ok_new_numbers T) (hr.mono (by decide)) (by rfl) T.g_new_numbers T.F_new_numbers.kp (b_new_numbers T) .nil pass0 (pa_cons (pe_lc (own := [("item", 11)]) (g := gName 11) rfl sc_hole.nd (pi_listK (K := K) rfl (pv 0)) (blkOk_by (own := [("item", 11)]) (N := ["items", "fixed", "shares", "common", "rest", "step", "least", "first", "tops", "most", "last", "item", "new", "share"]) (sc := defScope s_hole) (by decide +kernel)) (fun _ _ _ _ _ => (pg_name (i := 11) sc_hole.nd rfl (Or.inl rfl))) (fun _ _ _ _ _ => pts_nil) (fun _ _ _ _ _ => (pe_ifExp (pt_cmpR op_isN (pv 11) pe_non (nomark _)) pe_int pe_int))) pa_nil)))
    (pss_cons (ps_if (pt_val (pe_callB (cr_anyK (K := K) rfl rfl) (by rfl) T.z_any bt_any (pa_cons (pe_lc (own := [("new", 12), ("share", 13)]) (g := g2 K 12 13) rfl sc_hole.nd (pi_zip (by rfl) T.z_zip (pa_cons (pv 1) (pa_cons (pv 2) pa_nil))) (blkOk_by (own := [("new", 12), ("share", 13)]) (N := ["items", "fixed", "shares", "common", "rest", "step", "least", "first", "tops", "most", "last", "item", "new", "share"]) (sc := defScope s_hole) (by decide +kernel)) (fun _ _ _ _ _ => (pg_tup rfl (pgs_cons (pg_name (i := 12) sc_hole.nd rfl (Or.inl rfl)) (pgs_cons (pg_name (i := 13) sc_hole.nd rfl (Or.inl rfl)) pgs_nil)))) (fun _ _ _ _ _ => (pts_one (pt_cmpR op_eq (pv 13) pe_int (nomark _)))) (fun _ _ _ _ _ => (pe_cmpR op_lt (pv 12) pe_int (nomark _)))) pa_nil)))
      (pss_one (ps_ret pe_non))
      pss_nil)
    (pss_cons (ps_set (i := 3) sc_hole.nd rfl (.inl rfl) (callG (ok_common_rest T) (hr.mono (by decide)) (by rfl) T.g_common_rest T.F_common_rest.kp (b_common_rest T) .nil pass0 (pa_cons (pv 1) (pa_cons (pv 2) pa_nil))))
    (pss_cons (ps_if (pt_cmpR op_isN (pv 3) pe_non (nomark _))
      (pss_one (ps_ret pe_non))
      pss_nil)
    (pss_cons (ps_asg (pv 3) (pg_tup rfl (pgs_cons (pg_name (i := 4) sc_hole.nd rfl (.inl rfl)) (pgs_cons (pg_name (i := 5) sc_hole.nd rfl (.inl rfl)) pgs_nil))))
    (pss_cons (ps_set (i := 6) sc_hole.nd rfl (.inl rfl) (pe_callB (cr_max rfl) (by rfl) T.z_max bt_max (pa_cons (pe_lc (own := [("new", 12), ("share", 13)]) (g := g2 K 12 13) rfl sc_hole.nd (pi_zip (by rfl) T.z_zip (pa_cons (pv 1) (pa_cons (pv 2) pa_nil))) (blkOk_by (own := [("new", 12), ("share", 13)]) (N := ["items", "fixed", "shares", "common", "rest", "step", "least", "first", "tops", "most", "last", "item", "new", "share"]) (sc := defScope s_hole) (by decide +kernel)) (fun _ _ _ _ _ => (pg_tup rfl (pgs_cons (pg_name (i := 12) sc_hole.nd rfl (Or.inl rfl)) (pgs_cons (pg_name (i := 13) sc_hole.nd rfl (Or.inl rfl)) pgs_nil)))) (fun _ _ _ _ _ => (pts_one (pt_cmpR op_eq (pv 13) pe_int (nomark _)))) (fun _ _ _ _ _ => (pe_un un_neg (pv 12)))) pa_nil)))
    (pss_cons (ps_set (i := 7) sc_hole.nd rfl (.inl rfl) (pe_op op_add (pv 6) (pe_op op_mod (pe_op op_sub (pv 4) (pv 6)) (pv 5))))
    (pss_cons (ps_setLc (i := 8) (own := [("new", 12), ("share", 13)]) (g := g2 K 12 13) rfl sc_hole.nd rfl rfl (sw_true rfl rfl rfl (by decide +kernel)) (pi_zip (by rfl) T.z_zip (pa_cons (pv 1) (pa_cons (pv 2) pa_nil))) (blkOk_by (own := [("new", 12), ("share", 13)]) (N := ["items", "fixed", "shares", "common", "rest", "step", "least", "first", "tops", "most", "last", "item", "new", "share"]) (sc := defScope s_hole) (by decide +kernel)) (fun _ _ _ _ _ => (pg_tup rfl (pgs_cons (pg_name (i := 12) sc_hole.nd rfl (Or.inl rfl)) (pgs_cons (pg_name (i := 13) sc_hole.nd rfl (Or.inl rfl)) pgs_nil)))) (fun _ _ _ _ _ => (pts_one (pt_cmpR op_eq (pv 13) (pe_un un_neg pe_int) (nomark _)))) (fun _ _ _ _ _ => (pv 12)))
    (pss_cons (ps_if (pt_cmpR op_eq (pe_callB (call_lenK (K := K) rfl) (by rfl) T.z_len bt_len (pa_cons (pv 8) pa_nil)) pe_int (nomark _))
      (pss_one (ps_ret (pe_tup (pa_cons (pv 7) (pa_cons (pv 5) (pa_cons pe_non pa_nil))))))
      pss_nil)
    (pss_cons (ps_set (i := 9) sc_hole.nd rfl (.inl rfl) (pe_callB (cr_min rfl) (by rfl) T.z_min bt_min (pa_cons (pv 8) pa_nil)))
    (pss_cons (ps_set (i := 10) sc_hole.nd rfl (.inl rfl) (pe_op op_sub (pv 9) (pe_op op_mod (pe_op op_sub (pv 9) (pv 4)) (pv 5))))
    (pss_cons (ps_if (pt_cmpR op_lt (pv 10) (pv 7) (nomark _))
      (pss_one (ps_ret pe_non))
      pss_nil)
    (pss_one (ps_ret (pe_tup (pa_cons (pv 7) (pa_cons (pe_ifExp (pt_cmpR op_eq (pv 7) (pv 10) (nomark _)) pe_int (pv 5)) (pa_cons (pv 10) pa_nil)))))))))))))))))))), ?_⟩
    refine q_drop (ev_call (ea_cons (ev_var rfl) ea_nil) (v_check_hole hS hh h1)) fun H1 e1 => ?_
    have hS1 := ex_l e1 hS
    have il := itV_length r h
    have xat : ∀ {i : Nat} {x : V}, (itV r h)[i]? = some x → i < r.length ∧ x = (if i = h then .non else .int (fn r i)) := fun {i x} hx => by
      have hi := (List.getElem?_eq_some_iff.mp hx).1
      rw [il] at hi
      rw [itV_at hi] at hx
      exact ⟨hi, (Option.some.inj hx).symm⟩
    have lset : (r.set h 0).length = r.length := List.length_set
    have lind : (ind r.length h).length = r.length := by unfold ind; rw [List.length_set, List.length_replicate]
    refine q_asgL (xs := vi (fxL r h)) (el_callL (xs := vi (r.set h 0)) (el_is (el_lcL (fun _ => true) (fun j => V.int ((r.set h 0).getD j 0)) (ev_var rfl) hS1 (by rw [il]; omega) (fun _ => rfl) (fun _ _ _ _ _ => et_yes) (fun i x H2 e2 hx _ => ?_)) ?_) fun p H2 e2 g2 => l_new_numbers (sq_of g2) (by omega) (by omega)) fun pf H2 f2 e2 g2 => ?_
    · obtain ⟨hi, rfl⟩ := xat hx
      rw [set_fn hh]
      by_cases z : i = h
      · rw [if_pos z, if_pos z]
        exact ev_if (b := true) (et_is (et_test (ev_op (ev_var rfl) ev_c rv_isN)) rfl) (fun _ => ev_c) (fun h => nomatch h)
      · rw [if_neg z, if_neg z]
        exact ev_if (b := false) (et_is (et_test (ev_op (ev_var rfl) ev_c rv_isN)) (decide_eq_false fun z => nomatch z)) (fun h => nomatch h) (fun _ => ev_var rfl)
    · rw [il]
      exact (given_tab _ _).trans (congrArg vi (by rw [← lset]; exact tab_self _))
    have hS2 := ex_l e2 hS1
    refine q_asgL (xs := vi (shL r.length h)) (el_callL (xs := vi (ind r.length h)) (el_is (el_lcL (fun _ => true) (fun j => V.int ((ind r.length h).getD j 0)) (ev_var rfl) hS2 (by rw [il]; omega) (fun _ => rfl) (fun _ _ _ _ _ => et_yes) (fun i x H2 e2 hx _ => ?_)) ?_) fun p H2 e2 g2 => l_new_numbers (sq_of g2) (by omega) (by omega)) fun ps H3 f3 e3 g3 => ?_
    · obtain ⟨hi, rfl⟩ := xat hx
      rw [ind_fn hh]
      by_cases z : i = h
      · rw [if_pos z, if_pos z]
        exact ev_if (b := true) (et_is (et_test (ev_op (ev_var rfl) ev_c rv_isN)) rfl) (fun _ => ev_c) (fun h => nomatch h)
      · rw [if_neg z, if_neg z]
        exact ev_if (b := false) (et_is (et_test (ev_op (ev_var rfl) ev_c rv_isN)) (decide_eq_false fun z => nomatch z)) (fun h => nomatch h) (fun _ => ev_c)
    · rw [il]
      refine (given_tab _ _).trans (congrArg vi ?_)
      have := tab_self (ind r.length h)
      rw [lind] at this
      exact this
    have lf : (fxL r h).length = r.length := by unfold fxL; rw [newL_length, List.length_set]
    have ls := shL_length r.length h
    have hF : SqL K H3 pf (vi (fxL r h)) := sq_of (e3 _ _ g2)
    have hG : SqL K H3 ps (vi (shL r.length h)) := sq_of g3
    have sg := shL_sgn hh h1
    have e03 := e1.trans (e2.trans e3)
    have at2 : ∀ {i : Nat} {x y : V}, (vi (fxL r h))[i]? = some x → (vi (shL r.length h))[i]? = some y → i < r.length ∧ x = .int (fn (fxL r h) i) ∧ y = .int (fn (shL r.length h) i) := fun {i x y} hx hy => by
      have hi := (List.getElem?_eq_some_iff.mp hx).1
      rw [List.length_map, lf] at hi
      rw [getD_at (by omega)] at hx hy
      exact ⟨hi, (Option.some.inj hx).symm, (Option.some.inj hy).symm⟩
    have hmin : ∀ {xs ys : List Int}, xs = fxL r h → ys = shL r.length h → min (vi xs).length (vi ys).length = r.length := fun a b => by rw [a, b, List.length_map, List.length_map, lf, ls, Nat.min_self]
    refine q_when (b := negZ (fxL r h) (shL r.length h) r.length) (et_B (ev_is (ev_anyN (bs := ((List.range r.length).filter fun i => decide (fn (shL r.length h) i = 0)).map fun i => decide (fn (fxL r h) i < 0)) (el_is (el_lcZF (fun i => decide (fn (shL r.length h) i = 0)) (fun i => V.bl (decide (fn (fxL r h) i < 0))) (ev_var rfl) (ev_var rfl) hF hG (by rw [List.length_map, lf]; omega) (fun _ _ => rfl) (fun i x y H4 e4 hx hy => ?_) (fun i x y H4 e4 hx hy _ => ?_)) ?_)) (by rw [any_fm]; rfl))) (fun hn H4 e4 => ?_) (fun hn H4 e4 => ?_)
    · obtain ⟨_, rfl, rfl⟩ := at2 hx hy
      exact et_is (et_test (ev_op (ev_var rfl) ev_c (rv_eq rfl))) (by simp)
    · obtain ⟨_, rfl, rfl⟩ := at2 hx hy
      exact ev_op (ev_var rfl) ev_c (rv_b rfl)
    · (rw [hmin rfl rfl]; unfold given; first | rfl | (unfold vi onesL; rw [List.map_map]; rfl) | (unfold vi topsL; rw [List.map_map]; rfl) | (rw [List.map_map]; rfl))
    · have : holeL r h = none := by
        unfold holeL holeF
        rw [if_pos hn]
      exact s_ret ev_c fun H5 e5 => q .non H5 (e03.trans (e4.trans e5)) (by rw [this]; rfl)
    refine q_asgP (ep_call (ea_cons (ev_var rfl) (ea_cons (ev_var rfl) ea_nil)) (p_common_rest (ex_l e4 hF) (ex_l e4 hG) lf ls h1 sg)) fun vc H5 e5 hc => ?_
    have nz : ¬ negZ (fxL r h) (shL r.length h) r.length = true := by rw [hn]; exact fun z => nomatch z
    cases hC : crtF (fxL r h) (shL r.length h) r.length with
    | none =>
      rw [hC] at hc
      obtain rfl : vc = .non := hc
      have : holeL r h = none := by
        unfold holeL holeF
        rw [if_neg nz, hC]
      refine q_when (b := true) (et_is (et_test (ev_op (ev_var rfl) ev_c rv_isN)) rfl) (fun _ H6 e6 => ?_) (fun h => nomatch h)
      exact s_ret ev_c fun H7 e7 => q .non H7 (e03.trans (e4.trans (e5.trans (e6.trans e7)))) (by rw [this]; rfl)
    | some cr =>
      obtain ⟨rest, step⟩ := cr
      rw [hC] at hc
      obtain ⟨pc, rfl, gc⟩ := hc
      obtain ⟨s1, s2⟩ := crt_lt h1 hC
      refine q_when (b := false) (et_is (et_test (ev_op (ev_var rfl) ev_c rv_isN)) (decide_eq_false fun z => nomatch z)) (fun h => nomatch h) fun _ H6 e6 => ?_
      refine q_tupP2 (P := fun v H => v = .ref pc ∧ H pc = some (.tup [.int rest, .int (step : Int)])) (ep_V (ev_var rfl) fun H7 e7 => ⟨rfl, e7 _ _ (e6 _ _ gc)⟩) fun v H7 e7 hv => ⟨pc, .int rest, .int (step : Int), hv.1, st_of hv.2, ?_⟩
      have e37 := e4.trans (e5.trans (e6.trans e7))
      have hF7 := ex_l e37 hF
      have hG7 := ex_l e37 hG
      have on : onesL (fxL r h) (shL r.length h) r.length ≠ [] := fun z => by
        have := (ones_mem (fx := fxL r h)).mpr ⟨h, hh, shL_one hh h1, rfl⟩
        rw [z] at this
        cases this
      obtain ⟨m1, m2⟩ := maxL_ok on
      refine q_asg (v := .int (maxL (onesL (fxL r h) (shL r.length h) r.length))) (ev_maxN (ns := onesL (fxL r h) (shL r.length h) r.length) (el_is (el_lcZF (fun i => decide (fn (shL r.length h) i = 1)) (fun i => V.int (-(fn (fxL r h) i))) (ev_var rfl) (ev_var rfl) hF7 hG7 (by rw [List.length_map, lf]; omega) (fun _ _ => rfl) (fun i x y H4 e4 hx hy => ?_) (fun i x y H4 e4 hx hy _ => ?_)) ?_) m1 m2) fun H8 e8 => ?_
      · obtain ⟨_, rfl, rfl⟩ := at2 hx hy
        exact et_is (et_test (ev_op (ev_var rfl) ev_c (rv_eq rfl))) (by simp)
      · obtain ⟨_, rfl, rfl⟩ := at2 hx hy
        exact ev_un (ev_var rfl) ru_neg
      · (rw [hmin rfl rfl]; unfold given; first | rfl | (unfold vi onesL; rw [List.map_map]; rfl) | (unfold vi topsL; rw [List.map_map]; rfl) | (rw [List.map_map]; rfl))
      refine q_asg (v := .int (fstH (maxL (onesL (fxL r h) (shL r.length h) r.length)) rest step)) (ev_op (ev_var rfl) (ev_op (ev_op (ev_var rfl) (ev_var rfl) rv_I0) (ev_var rfl) (rv_I (show (0 : Int) < (step : Int) by omega))) rv_I0) fun H9 e9 => ?_
      refine q_asgL (xs := vi (topsL (fxL r h) (shL r.length h) r.length)) (el_is (el_lcZF (fun i => decide (fn (shL r.length h) i = -1)) (fun i => V.int (fn (fxL r h) i)) (ev_var rfl) (ev_var rfl) (ex_l (e8.trans e9) hF7) (ex_l (e8.trans e9) hG7) (by rw [List.length_map, lf]; omega) (fun _ _ => rfl) (fun i x y H4 e4 hx hy => ?_) (fun i x y H4 e4 hx hy _ => ?_)) ?_) fun pt H10 f10 e10 g10 => ?_
      · obtain ⟨_, rfl, rfl⟩ := at2 hx hy
        exact et_is (et_test (ev_op (ev_var rfl) (ev_un ev_c ru_neg) (rv_eq rfl))) (by simp)
      · obtain ⟨_, rfl, rfl⟩ := at2 hx hy
        exact ev_var rfl
      · (rw [hmin rfl rfl]; unfold given; first | rfl | (unfold vi onesL; rw [List.map_map]; rfl) | (unfold vi topsL; rw [List.map_map]; rfl) | (rw [List.map_map]; rfl))
      have e0 := e03.trans (e37.trans (e8.trans (e9.trans e10)))
      by_cases ct : topsL (fxL r h) (shL r.length h) r.length = []
      · have hL : holeL r h = some (fstH (maxL (onesL (fxL r h) (shL r.length h) r.length)) rest step, (step : Int), none) := by
          unfold holeL holeF
          rw [if_neg nz, hC]
          dsimp only
          rw [if_pos ct]
        refine q_when (b := true) (et_is (et_test (ev_op (ev_len (ev_var rfl) (sq_of g10)) ev_c (rv_eq rfl))) (by rw [ct]; rfl)) (fun _ H11 e11 => ?_) (fun h => nomatch h)
        exact s_retU (eu_tup (ea_cons (ev_var rfl) (ea_cons (ev_var rfl) (ea_cons ev_c ea_nil))) (by show 3 ≤ 100000; decide)) fun t H12 f12 e12 g12 => q _ H12 (e0.trans (e11.trans e12)) (by rw [hL]; exact ⟨t, rfl, g12⟩)
      · obtain ⟨t1, t2⟩ := minL_ok ct
        refine q_when (b := false) (et_is (et_test (ev_op (ev_len (ev_var rfl) (sq_of g10)) ev_c (rv_eq rfl))) (decide_eq_false fun z => ?_)) (fun h => nomatch h) fun _ H11 e11 => ?_
        · have := V.int.inj z
          rw [List.length_map] at this
          exact ct (List.length_eq_zero_iff.mp (by omega))
        refine q_asg (v := .int (minL (topsL (fxL r h) (shL r.length h) r.length))) (ev_minP (ev_var rfl) (sq_of (e11 _ _ g10)) t1 t2) fun H12 e12 => ?_
        refine q_asg (v := .int (lstH (minL (topsL (fxL r h) (shL r.length h) r.length)) rest step)) (ev_op (ev_var rfl) (ev_op (ev_op (ev_var rfl) (ev_var rfl) rv_I0) (ev_var rfl) (rv_I (show (0 : Int) < (step : Int) by omega))) rv_I0) fun H13 e13 => ?_
        have e1' := e0.trans (e11.trans (e12.trans e13))
        have hd : holeL r h = (if lstH (minL (topsL (fxL r h) (shL r.length h) r.length)) rest step < fstH (maxL (onesL (fxL r h) (shL r.length h) r.length)) rest step then none
          else some (fstH (maxL (onesL (fxL r h) (shL r.length h) r.length)) rest step, (if fstH (maxL (onesL (fxL r h) (shL r.length h) r.length)) rest step = lstH (minL (topsL (fxL r h) (shL r.length h) r.length)) rest step then 0 else (step : Int)), some (lstH (minL (topsL (fxL r h) (shL r.length h) r.length)) rest step))) := by
          unfold holeL holeF
          rw [if_neg nz, hC]
          dsimp only
          rw [if_neg ct]
        generalize fstH (maxL (onesL (fxL r h) (shL r.length h) r.length)) rest step = f at *
        generalize lstH (minL (topsL (fxL r h) (shL r.length h) r.length)) rest step = l at *
        refine q_when (b := decide (l < f)) (et_test (ev_op (ev_var rfl) (ev_var rfl) (rv_b rfl))) (fun hb H14 e14 => ?_) (fun hb H14 e14 => ?_)
        · have hL : holeL r h = none := by rw [hd, if_pos (of_decide_eq_true hb)]
          exact s_ret ev_c fun H15 e15 => q .non H15 (e1'.trans (e14.trans e15)) (by rw [hL]; rfl)
        · rw [if_neg (of_decide_eq_false hb)] at hd
          refine s_retU (xs := [.int f, .int (if f = l then 0 else (step : Int)), .int l]) (eu_tup (ea_cons (ev_var rfl) (ea_cons (ev_if (b := decide (f = l)) (et_is (et_test (ev_op (ev_var rfl) (ev_var rfl) (rv_eq rfl))) (by simp)) (fun hq => ev_is ev_c (by rw [if_pos (of_decide_eq_true hq)])) (fun hq => ev_is (ev_var rfl) (by rw [if_neg (of_decide_eq_false hq)]))) (ea_cons (ev_var rfl) ea_nil))) (by show 3 ≤ 100000; decide)) fun t H15 f15 e15 g15 => q _ H15 (e1'.trans (e14.trans e15)) (by rw [hd]; exact ⟨t, rfl, g15⟩)
/-! ### told -/
def sp_told (K : PySem.W.Frag) : Sp := fun vs H Q _ => ∃ (r : Addr) (ts : List Tm) (n : Nat), vs = [.ref r, .int (n : Int)] ∧ Rul H r ts ∧ 0 < ts.length ∧ ts.length ≤ 12 ∧ (∀ t ∈ ts, TmOk t) ∧ 1 ≤ n ∧ n ≤ 300 ∧ RetL (vi (ruv ts n)) H Q
theorem l_told {K : PySem.W.Frag} {H : Hp} {r : Addr} {ts : List Tm} {n : Nat} (h : Rul H r ts) (h0 : 0 < ts.length) (h1 : ts.length ≤ 12) (ok : ∀ t ∈ ts, TmOk t) (n0 : 1 ≤ n) (n1 : n ≤ 300) : SpL (sp_told K) [.ref r, .int (n : Int)] H (vi (ruv ts n)) := fun H1 e Q q E => ⟨r, ts, n, rfl, h.ex e, h0, h1, ok, n0, n1, q⟩
theorem ok_told (T : Txt K mg) : FnG PP w K mg base CX0 5 T.a_told T.d_told ["rule", "many"] (sp_told K) := by
  refine okG T.F_told sc_told (fun vs H Q E h => ?_) (fun cdv A out s H vs Q E hr h => ?_)
  · obtain ⟨r, ts, n, rfl, hR, h0, h1, ok, n0, n1, q⟩ := h
    rfl
  · obtain ⟨r, ts, n, rfl, hR, h0, h1, ok, n0, n1, q⟩ := h
    refine ⟨_, (pss_cons (ps_expr (callG (ok_check_rule T) (hr.mono (by decide)) (by rfl) T.g_check_rule T.F_check_rule.kp (b_check_rule T) .nil pass0 (pa_cons (pv 0) pa_nil)))
    (pss_cons (ps_expr (callG (ok_check_many T) (hr.mono (by decide)) (by rfl) T.g_check_many T.F_check_many.kp (b_check_many T) .nil pass0 (pa_cons (pv 1) pa_nil)))
    (pss_one (ps_ret (callG (ok_numbers T) (hr.mono (by decide)) (by rfl) T.g_numbers T.F_numbers.kp (b_numbers T) .nil pass0 (pa_cons (pv 0) (pa_cons (pv 1) pa_nil))))))), ?_⟩
    refine q_drop (ev_call (ea_cons (ev_var rfl) ea_nil) (v_check_rule hR h0 h1 ok)) fun H1 e1 => ?_
    refine q_drop (ev_call (ea_cons (ev_var rfl) ea_nil) (v_check_many (by omega) (by omega))) fun H2 e2 => ?_
    exact s_retL (el_call (ea_cons (ev_var rfl) (ea_cons (ev_var rfl) ea_nil)) (l_numbers (hR.ex (e1.trans e2)) ok (by omega))) fun l H3 h3 e3 g3 => q l H3 (fresh_back (e1.trans e2) h3) ((e1.trans e2).trans e3) g3
/-! ### back_row -/
def sp_back_row (K : PySem.W.Frag) : Sp := fun vs H Q _ => ∃ (a : Addr) (ds : List Int) (m : Nat), vs = [.ref a, .int (m : Int)] ∧ SqT K H a (vi ds) ∧ Shf ds ∧ 1 ≤ m ∧ m ≤ 300 ∧ RetL (vi (up (backL ds m))) H Q
theorem l_back_row {K : PySem.W.Frag} {H : Hp} {a : Addr} {ds : List Int} {m : Nat} (h : SqT K H a (vi ds)) (s : Shf ds) (h1 : 1 ≤ m) (h2 : m ≤ 300) : SpL (sp_back_row K) [.ref a, .int (m : Int)] H (vi (up (backL ds m))) :=
  fun H1 e Q q E => ⟨a, ds, m, rfl, ex_t e h, s, h1, h2, q⟩
theorem ok_back_row (T : Txt K mg) : FnG PP w K mg base CX0 5 T.a_back_row T.d_back_row ["shuffle", "many"] (sp_back_row K) := by
  refine okG T.F_back_row sc_back_row (fun vs H Q E h => ?_) (fun cdv A out s H vs Q E hr h => ?_)
  · obtain ⟨a, ds, m, rfl, hA, hs, m0, m1, q⟩ := h
    rfl
  · obtain ⟨a, ds, m, rfl, hA, hs, m0, m1, q⟩ := h
    refine ⟨_, (pss_cons (ps_set (i := 2) sc_back_row.nd rfl (.inr rfl) (callG (ok_lengths T) (hr.mono (by decide)) (by rfl) T.g_lengths T.F_lengths.kp (b_lengths T) .nil pass0 (pa_cons (pv 0) pa_nil)))
    (pss_cons (ps_expr (callG (ok_check_many T) (hr.mono (by decide)) (by rfl) T.g_check_many T.F_check_many.kp (b_check_many T) .nil pass0 (pa_cons (pv 1) pa_nil)))
    (pss_one (ps_ret (pe_lc (own := [("n", 3)]) (g := gName 3) rfl sc_back_row.nd (pi_range2 (by rfl) T.z_range (pa_cons pe_int (pa_cons (pe_op op_add (pv 1) pe_int) pa_nil))) (blkOk_by (own := [("n", 3)]) (N := ["shuffle", "many", "found", "n", "length"]) (sc := defScope s_back_row) (by decide +kernel)) (fun _ _ _ _ _ => (pg_name (i := 3) sc_back_row.nd rfl (Or.inr rfl))) (fun _ _ _ _ _ => pts_nil) (fun _ _ _ _ _ => (pe_callB (cr_sumK (K := K) rfl rfl) (by rfl) T.z_sum bt_sum (pa_cons (pe_lc (own := [("length", 4)]) (g := gName 4) rfl sc_back_row.nd (pi_listK (K := K) rfl (pv 2)) (blkOk_by (own := [("length", 4)]) (N := ["shuffle", "many", "found", "n", "length"]) (sc := _) (by change blkC _ { kind := .function, names := [(".0", .local), ("n", .cell), ("sum", .globalImplicit), ("found", .cell)], isGenerator := false, isCoroutine := false } _ _ = true; decide +kernel)) (fun _ _ _ _ _ => (pg_name (i := 4) sc_back_row.nd rfl (Or.inl rfl))) (fun _ _ _ _ _ => (pts_one (pt_cmpR op_eq (pe_op op_mod (pv 3) (pv 4)) pe_int (nomark _)))) (fun _ _ _ _ _ => (pv 4))) pa_nil)))))))), ?_⟩
    have h3 := hs.2.1
    have rg := rings_of hs
    have hrl := rings_length rg
    have hll := lens_length ds
    refine q_asgL (el_call (ea_cons (ev_var rfl) ea_nil) (l_lengths hA hs)) fun p H1 hp e1 h1 => ?_
    refine q_drop (ev_call (ea_cons (ev_var rfl) ea_nil) (v_check_many (by omega) (by omega))) fun H2 e2 => ?_
    refine s_retL (el_is (el_lcR2 (lo := 1) (n := (m : Int) + 1) (fun _ => true) (fun i => V.int ((cnt ds (i + 1) : Nat) : Int)) (ea_cons ev_c (ea_cons (ev_op (ev_var rfl) ev_c rv_I0) ea_nil)) (by omega) (fun _ => rfl) (fun _ _ _ _ => et_yes) ?_) ?_) fun p H3 hp e3 h3 => q p H3 (fresh_back (e1.trans e2) hp) ((e1.trans e2).trans e3) h3
    · intro i H3 e3 hi _
      refine ev_is (ev_sumN (ns := (lensL ds).filter fun l => decide ((1 + (i : Int)) % l = 0)) (el_is (el_lcL (fun j => decide ((1 + (i : Int)) % (lensL ds).getD j 0 = 0)) (fun j => V.int ((lensL ds).getD j 0)) (ev_var rfl) (sq_of (e3 _ _ (e2 _ _ h1))) (by rw [List.length_map]; omega) (fun _ => rfl) ?_ ?_) ?_)) ?_
      · intro j x H4 e4 hx
        obtain ⟨y, rfl, hy, hg⟩ := vi_inv hx
        have := lens_mem rg (List.mem_of_getElem? hy)
        rw [hg]
        exact et_is (et_test (ev_op (ev_op (ev_var rfl) (ev_var rfl) (rv_I (show (0 : Int) < y by omega))) ev_c (rv_eq rfl))) (by simp)
      · intro j x H4 e4 hx _
        obtain ⟨y, rfl, hy, hg⟩ := vi_inv hx
        rw [hg]
        exact ev_var rfl
      · rw [List.length_map]
        exact given_filter (lensL ds) fun l => decide ((1 + (i : Int)) % l = 0)
      · have := back_cnt hs rg (i + 1)
        rw [show ((i + 1 : Nat) : Int) = 1 + (i : Int) by omega] at this
        rw [this]
    · rw [show ((m : Int) + 1 - 1).toNat = m by omega, given_ints]
      unfold backL up
      rw [List.map_map]
      rfl
/-! ### rings -/
theorem v_first_bar {K : PySem.W.Frag} {H : Hp} {a : Addr} {r : List Int} (h : SqL K H a (vi r)) (h0 : 0 < r.length) (h1 : r.length ≤ 4000) (fr : Free r) : SpV (sp_first_bar K) [.ref a] H .non := fun H1 e Q q E => b_first_bar' h h0 h1 H1 e Q (fun v H2 e2 hv => by
  rw [bar_free.mpr fr] at hv
  rw [show v = .non from hv]
  exact q H2 e2) E

def sp_rings (K : PySem.W.Frag) : Sp := fun vs H Q _ => ∃ (a : Addr) (r : List Int), vs = [.ref a] ∧ SqL K H a (vi r) ∧ 0 < r.length ∧ r.length ≤ 4000 ∧ Free r ∧ RetL (vi (ringsR r)) H Q
theorem l_rings {K : PySem.W.Frag} {H : Hp} {a : Addr} {r : List Int} (h : SqL K H a (vi r)) (h0 : 0 < r.length) (h1 : r.length ≤ 4000) (fr : Free r) : SpL (sp_rings K) [.ref a] H (vi (ringsR r)) := fun H1 e Q q E => ⟨a, r, rfl, ex_l e h, h0, h1, fr, q⟩
theorem ok_rings (T : Txt K mg) : FnG PP w K mg base CX0 6 T.a_rings T.d_rings ["row"] (sp_rings K) := by
  refine okG T.F_rings sc_rings (fun vs H Q E h => ?_) (fun cdv A out s H vs Q E hr h => ?_)
  · obtain ⟨a, r, rfl, hS, h0, h1, fr, q⟩ := h
    rfl
  · obtain ⟨a, r, rfl, hS, h0, h1, fr, q⟩ := h
    refine ⟨_, (pss_cons (ps_set (i := 1) sc_rings.nd rfl (.inl rfl) (callG (ok_first_bar T) (hr.mono (by decide)) (by rfl) T.g_first_bar T.F_first_bar.kp (b_first_bar T) .nil pass0 (pa_cons (pv 0) pa_nil)))
    (pss_cons (ps_if (pt_cmpR op_notN (pv 1) pe_non (nomark _))
      (pss_one ps_never)
      pss_nil)
    (pss_one (ps_ret (pe_lc (own := [("n", 2), ("new", 3)]) (g := g2 K 2 3) rfl sc_rings.nd (pi_enumC (c := 1) (by rfl) T.z_enumerate (pa_cons (callG (ok_new_numbers T) (hr.mono (by decide)) (by rfl) T.g_new_numbers T.F_new_numbers.kp (b_new_numbers T) .nil pass0 (pa_cons (pv 0) pa_nil)) pa_nil)) (blkOk_by (own := [("n", 2), ("new", 3)]) (N := ["row", "bar", "n", "new"]) (sc := defScope s_rings) (by decide +kernel)) (fun _ _ _ _ _ => (pg_tup rfl (pgs_cons (pg_name (i := 2) sc_rings.nd rfl (Or.inl rfl)) (pgs_cons (pg_name (i := 3) sc_rings.nd rfl (Or.inl rfl)) pgs_nil)))) (fun _ _ _ _ _ => pts_nil) (fun _ _ _ _ _ => (pe_op op_fdivW (pv 3) (pv 2)))))))), ?_⟩
    refine q_asg (ev_call (ea_cons (ev_var rfl) ea_nil) (v_first_bar hS h0 h1 fr)) fun H1 e1 => ?_
    refine q_when (b := false) (et_test (ev_op (ev_var rfl) ev_c rv_notN)) (fun h => nomatch h) fun _ H2 e2 => ?_
    refine s_retL (el_is (el_lcNEnC (c := 1) (fun _ => true) (fun i => V.int ((newL r).getD i 0 / ((i + 1 : Nat) : Int))) (el_call (ea_cons (ev_var rfl) ea_nil) (l_new_numbers (ex_l (e1.trans e2) hS) h0 h1)) (by rw [List.length_map, newL_length]; omega) (fun _ _ => rfl) (fun _ _ _ _ _ => et_yes) ?_) ?_) fun p H3 hp e3 h3 => q p H3 (fresh_back (e1.trans e2) hp) ((e1.trans e2).trans e3) h3
    · intro i x H3 e3 hx _
      have hi : i < r.length := by
        have := (List.getElem?_eq_some_iff.mp hx).1
        rw [List.length_map, newL_length] at this
        exact this
      rw [getD_at (by rw [newL_length]; exact hi)] at hx
      cases hx
      exact ev_is (ev_op (ev_var rfl) (ev_var rfl) (rv_I (cdw _ (show (0 : Int) < 1 + (i : Int) by omega) (by omega)))) (by rw [show (1 : Int) + (i : Int) = ((i + 1 : Nat) : Int) by omega])
    · rw [List.length_map, newL_length]
      exact given_tab _ _
/-! ### _law_shuffle_right -/
def sp_law_shuffle_right (T : Txt K mg) : Sp := fun vs H Q _ => ∃ (p l1 l2 : Addr) (cs : List Int), vs = [.ref p] ∧ Liv T.a_Live H p l1 l2 cs ∧ 0 < cs.length ∧ cs.length ≤ 60 ∧ RetV (.bl true) H Q
theorem v_law_shuffle_right (T : Txt K mg) {H : Hp} {p l1 l2 : Addr} {cs : List Int} (h : Liv T.a_Live H p l1 l2 cs) (h0 : 0 < cs.length) (hl : cs.length ≤ 60) : SpV (sp_law_shuffle_right T) [.ref p] H (.bl true) := fun H1 e Q q E => ⟨p, l1, l2, cs, rfl, h.ex e, h0, hl, q⟩
theorem ok_law_shuffle_right (T : Txt K mg) : FnG PP w K mg base CX0 6 T.a_law_shuffle_right T.d_law_shuffle_right ["live"] (sp_law_shuffle_right T) := by
  refine okG T.F_law_shuffle_right sc_law_shuffle_right (fun vs H Q E h => ?_) (fun cdv A out s H vs Q E hr h => ?_)
  · obtain ⟨p, l1, l2, cs, rfl, hL, h0, hl, q⟩ := h
    rfl
  · obtain ⟨p, l1, l2, cs, rfl, hL, h0, hl, q⟩ := h
    refine ⟨_, (pss_cons (ps_if (PW.pt (pw_or (pt_cmpR op_lt (pe_propG (pv 0) T.cl_Live T.p_Live_things (ok_Live_things T) (hr.mono (by decide)) (b_Live_things T) pass0 rfl) pe_int (nomark _)) (pw_or1 (pt_cmpR op_gt (pe_propG (pv 0) T.cl_Live T.p_Live_things (ok_Live_things T) (hr.mono (by decide)) (b_Live_things T) pass0 rfl) pe_int (nomark _)))))
      (pss_one (ps_ret pe_bl))
      pss_nil)
    (pss_cons (ps_set (i := 1) sc_law_shuffle_right.nd rfl (.inl rfl) (callG (ok_shuffle_of T) (hr.mono (by decide)) (by rfl) T.g_shuffle_of T.F_shuffle_of.kp (b_shuffle_of T) .nil pass0 (pa_cons (pe_methG0 (pv 0) T.cl_Live T.m_Live_rings (ok_Live_rings T) (hr.mono (by decide)) (b_Live_rings T) pass0) pa_nil)))
    (pss_one (ps_ret (pe_and (pe_cmpR op_eq (pe_callB (call_lenK (K := K) rfl) (by rfl) T.z_len bt_len (pa_cons (pv 1) pa_nil)) (pe_propG (pv 0) T.cl_Live T.p_Live_things (ok_Live_things T) (hr.mono (by decide)) (b_Live_things T) pass0 rfl) (nomark _)) (pe_one (pe_cmpR (op_eqDK (K := K) rfl hr.rm.units) (callG (ok_back_row T) (hr.mono (by decide)) (by rfl) T.g_back_row T.F_back_row.kp (b_back_row T) .nil pass0 (pa_cons (pv 1) (pa_cons (pe_callB (call_lenO T.m_Live_len (ok_Live_len T) (hr.mono (by decide)) (b_Live_len T) pass0) (by rfl) T.z_len bt_len (pa_cons (pv 0) pa_nil)) pa_nil))) (pe_methG0 (pv 0) T.cl_Live T.m_Live_row (ok_Live_row T) (hr.mono (by decide)) (b_Live_row T) pass0) (nomark _)))))))), ?_⟩
    obtain ⟨⟨dx, hp⟩, g1, g2, ne, nn⟩ := id hL
    refine q_when (b := (decide (thg cs < 1) || decide (300 < thg cs))) (et_or (et_test (ev_op (ev_prop (ev_var rfl) hp (v_things T hL (by omega))) ev_c (rv_b rfl))) fun _ => et_test (ev_op (ev_prop (ev_var rfl) hp (v_things T hL (by omega))) ev_c (rv_b rfl))) (fun _ H1 e1 => s_ret ev_c fun H2 e2 => q H2 (e1.trans e2)) fun hb H1 e1 => ?_
    rw [Bool.or_eq_false_iff] at hb
    have t1 : 1 ≤ ths cs cs.length := by have := of_decide_eq_false hb.1; rw [thg_ths] at this; omega
    have t2 : ths cs cs.length ≤ 300 := by have := of_decide_eq_false hb.2; rw [thg_ths] at this; omega
    have L1 := hL.ex e1
    have hp1 := e1 _ _ hp
    have hs := due_shf nn t1 t2
    have dl := dueL_length nn cs.length
    refine q_asgU (eu_callL (el_meth (ev_var rfl) hp1 (lf_no _ _ (by decide +kernel) (by decide +kernel)) ea_nil (l_rings_of_live T L1 (by omega))) fun r H2 e2 g2 => u_shuffle_of (sq_of g2) h0 (by omega) nn t1 t2) fun pd H2 f2 e2 gd => ?_
    have L2 := L1.ex e2
    have hp2 := e2 _ _ hp1
    refine s_ret (v := .bl true) (ev_is (ev_andV (a := true) (b := true) (ev_is (ev_op (ev_is (ev_lenT (ev_var rfl) (st_of gd)) (show _ = V.int (thg cs) by rw [List.length_map, dl, thg_ths])) (ev_prop (ev_var rfl) hp2 (v_things T L2 (by omega))) (rv_eq rfl)) (by simp)) fun _ => ev_is (ev_eqLL (ns := rowL cs) (ms := rowL cs) (el_is (el_call (ea_cons (ev_var rfl) (ea_cons (ev_lenO (n := cs.length) (ev_var rfl) hp2 (v_len_of_live T L2) (by omega)) ea_nil)) (l_back_row (st_of gd) hs (by omega) (by omega))) (by rw [back_live nn t1 t2])) (el_meth (ev_var rfl) hp2 (lf_no _ _ (by decide +kernel) (by decide +kernel)) ea_nil (l_row_of_live T L2 (by omega)))) (by simp)) rfl) fun H3 e3 => q H3 ((e1.trans e2).trans e3)
/-! ### _law_barred_at -/
def ban (cs : List Int) (m : Int) : Int := if mc cs m then 0 else stp cs
def sp_law_barred_at (T : Txt K mg) : Sp := fun vs H Q _ => ∃ (p l1 l2 : Addr) (cs : List Int) (m : Int), vs = [.ref p, .int m] ∧ Liv T.a_Live H p l1 l2 cs ∧ cs.length ≤ 3000 ∧ ∀ H', Off [l1, l2] H H' → Liv T.a_Live H' p l1 l2 cs → Q (.int (ban cs m)) H'
theorem ok_law_barred_at (T : Txt K mg) : FnG PP w K mg base CX0 7 T.a_law_barred_at T.d_law_barred_at ["live", "more"] (sp_law_barred_at T) := by
  refine okG T.F_law_barred_at sc_law_barred_at (fun vs H Q E h => ?_) (fun cdv A out s H vs Q E hr h => ?_)
  · obtain ⟨p, l1, l2, cs, m, rfl, hL, hl, q⟩ := h
    rfl
  · obtain ⟨p, l1, l2, cs, m, rfl, hL, hl, q⟩ := h
    refine ⟨_, (pss_cons (ps_set (i := 2) sc_law_barred_at.nd rfl (.inl rfl) pe_int)
    (pss_cons (ps_try_keptM (Wout := fun _ _ _ _ => False) rfl rfl rfl sc_law_barred_at.nd takes0
      (fun W pn xe tk _ => (pss_cons (ps_expr (pe_methGS (pv 0) T.cl_Live T.m_Live_tell (ok_Live_tell T) (hr.mono (by decide)) (b_Live_tell T) (fun σ => passAt tk σ) (pa_cons (pv 1) pa_nil)))
      (pss_one (ps_expr (pe_methGS0 (pv 0) T.cl_Live T.m_Live_undo (ok_Live_undo T) (hr.mono (by decide)) (b_Live_undo T) (fun σ => passAt tk σ))))))
      (.named (i := 3) (c := .ref T.a_Barred) ⟨rfl, by decide, (.inl T.e_Barred.g)⟩ rfl rfl (fun a pn => (pss_one (ps_set (i := 2) sc_law_barred_at.nd rfl (.inl rfl) (pe_xk (K := K) rfl (pv 3))))) (.bare (c := .ref T.a_RowError) ⟨rfl, by decide, (.inl T.e_RowError.g)⟩ (fun a pn => (pss_one (ps_set (i := 2) sc_law_barred_at.nd rfl (.inl rfl) (pe_un un_neg pe_int)))) .nil)))
    (pss_one (ps_ret (pv 2))))), ?_⟩
    obtain ⟨⟨dx, hp⟩, g1, g2, ne, nn⟩ := id hL
    have n1 := ins_lst hp g1
    have n2 := ins_lst hp g2
    refine q_asg ev_c fun H0 e0 => ?_
    refine q_methS (ev_var rfl) (e0 _ _ hp) (lf_no _ _ (by decide +kernel) (by decide +kernel)) (ea_cons (ev_var rfl) ea_nil) fun H1 e1 => ?_
    refine ⟨p, l1, l2, cs, m, rfl, hL.ex (e0.trans e1), by omega, fun c c0 ec H3 o3 L3 => ?_, fun hf H3 d e3 hd => ?_⟩
    · have hm : mc cs m = true := by rw [ec]; exact mc_yes cs c0
      obtain ⟨⟨dx3, hp3⟩, _⟩ := id L3
      refine s_methS (ev_var rfl) hp3 (lf_no _ _ (by decide +kernel) (by decide +kernel)) ea_nil fun H4 e4 => ?_
      refine ⟨p, l1, l2, cs ++ [c], rfl, L3.ex e4, fun ds d ed H5 o5 L5 => ?_, fun z => absurd z (by simp)⟩
      obtain ⟨ed1, _⟩ := List.append_inj' ed rfl
      rw [← ed1] at L5
      exact s_ret (v := .int (ban cs m)) (ev_is (ev_var rfl) (by unfold ban; rw [if_pos hm])) fun H6 e6 => q H6 ((((Off.ex (e0.trans e1)).trans o3).trans (Off.ex e4)).trans (o5.trans (Off.ex e6))) (L5.ex e6)
    · refine ⟨true, T.e_Barred.exm T.e_Barred.s, fun _ a' ha' => ?_, fun h => nomatch h⟩
      have ga : upd (upd H3 d (.xd [(("n" : Str), .int (stp cs))])) a' (ExK (.ref T.a_Barred) (some d) a') a' = some (ExK (.ref T.a_Barred) (some d) a') := upd_same
      have nd : d ≠ a' := fun z => by
        rw [← z, upd_same] at ha'
        cases ha'
      have gd : upd (upd H3 d (.xd [(("n" : Str), .int (stp cs))])) a' (ExK (.ref T.a_Barred) (some d) a') d = some (.xd [(("n" : Str), .int (stp cs))]) := by
        rw [upd_ne nd, upd_same]
      have eE : Ex H (upd (upd H3 d (.xd [(("n" : Str), .int (stp cs))])) a' (ExK (.ref T.a_Barred) (some d) a')) := (((e0.trans e1).trans e3).trans (Ex.new hd)).trans (Ex.new ha')
      generalize upd (upd H3 d (.xd [(("n" : Str), .int (stp cs))])) a' (ExK (.ref T.a_Barred) (some d) a') = H4 at *
      refine s_asg (ev_xk (ev_var rfl) ga gd T.e_Barred.ex T.s_Barred.nf rfl) fun H5 e5 => ?_
      exact s_ret (v := .int (ban cs m)) (ev_is (ev_var rfl) (by unfold ban; rw [hf]; rfl)) fun H6 e6 => q H6 (Off.ex (eE.trans (e5.trans e6))) (hL.ex (eE.trans (e5.trans e6)))
/-! ### _law_great_right -/
def sp_law_great_right (T : Txt K mg) : Sp := fun vs H Q _ => ∃ (a : Addr) (n : Nat), vs = [.ref a] ∧ Well H a n ∧ n + 10000 ≤ 2 ^ 50 ∧ ∀ H2, But a H H2 → Q (.bl true) H2
theorem ok_law_great_right (T : Txt K mg) : FnG PP w K mg base CX0 7 T.a_law_great_right T.d_law_great_right ["well"] (sp_law_great_right T) := by
  refine okG T.F_law_great_right sc_law_great_right (fun vs H Q E h => ?_) (fun cdv A out s H vs Q E hr h => ?_)
  · obtain ⟨a, n, rfl, hw, hn, q⟩ := h
    rfl
  · obtain ⟨a, n, rfl, hw, hn, q⟩ := h
    refine ⟨_, (pss_cons (ps_set (i := 1) sc_law_great_right.nd rfl (.inl rfl) (pe_ix (ix_listK (K := K) rfl) (pe_lst (pa_cons pe_int (pa_cons (pe_op op_add pe_int (callG (ok_law_draw T) (hr.mono (by decide)) (by rfl) T.g_law_draw T.F_law_draw.kp (b_law_draw T) .nil pass0 (pa_cons (pv 0) (pa_cons pe_int pa_nil)))) pa_nil))) (callG (ok_law_draw T) (hr.mono (by decide)) (by rfl) T.g_law_draw T.F_law_draw.kp (b_law_draw T) .nil pass0 (pa_cons (pv 0) (pa_cons pe_int pa_nil))) (fun _ _ => rfl)))
    (pss_cons (ps_par (i := 2) (j := 3) (by rfl) sc_law_great_right.nd rfl rfl (by decide) rfl rfl (pa_cons (pe_makeG0 T.k_Live (ok_Live_init T) (hr.mono (by decide)) (by rfl) T.g_Live (b_Live_init T) pass0) (pa_cons (callG (ok_told T) (hr.mono (by decide)) (by rfl) T.g_told T.F_told.kp (b_told T) .nil pass0 (pa_cons (pe_lst (pa_cons (pe_tup (pa_cons pe_str (pa_cons (pe_op op_add pe_int (callG (ok_law_draw T) (hr.mono (by decide)) (by rfl) T.g_law_draw T.F_law_draw.kp (b_law_draw T) .nil pass0 (pa_cons (pv 0) (pa_cons pe_int pa_nil)))) (pa_cons (pv 1) pa_nil)))) pa_nil)) (pa_cons pe_int pa_nil))) pa_nil)) (by rfl))
    (pss_cons (ps_for PassesOwn.never rfl (pi_listK (K := K) rfl (pv 3)) (pg_name (i := 4) sc_law_great_right.nd rfl (.inl rfl))
      (pss_cons (ps_if (pt_cmpR (op_notInO T.m_Live_contains (ok_Live_contains T) (hr.mono (by decide)) (b_Live_contains T) pass0) (pv 4) (pv 2) rfl)
        (pss_one (ps_ret pe_bl))
        pss_nil)
      (pss_one (ps_expr (pe_methG (pv 2) T.cl_Live T.m_Live_tell (ok_Live_tell T) (hr.mono (by decide)) (b_Live_tell T) passL (pa_cons (pv 4) pa_nil))))))
    (pss_one (ps_ret (pe_and (pe_cmpR (op_eqDK (K := K) rfl hr.rm.units) (pe_methG0 (pv 2) T.cl_Live T.m_Live_row (ok_Live_row T) (hr.mono (by decide)) (b_Live_row T) pass0) (pv 3) (nomark _)) (pe_one (pe_cmpR (op_eqDK (K := K) rfl hr.rm.units) (pe_methG0 (pv 2) T.cl_Live T.m_Live_rings (ok_Live_rings T) (hr.mono (by decide)) (b_Live_rings T) pass0) (callG (ok_rings T) (hr.mono (by decide)) (by rfl) T.g_rings T.F_rings.kp (b_rings T) .nil pass0 (pa_cons (pv 3) pa_nil)) (nomark _))))))))), ?_⟩
    obtain ⟨us, ga⟩ := well_lst hw
    refine qw_asg (P := fun v => ∃ b : Int, v = .int b ∧ 1 ≤ b ∧ b ≤ 40) (d := 2) (ew_ixW (PL := fun xs => ∃ b : Int, xs = [.int 40, .int b] ∧ 1 ≤ b ∧ b ≤ 40) (d1 := 1) (P := fun v => ∃ r : Int, v = .int r ∧ 0 ≤ r ∧ r < 2) (ewl_mono (ewl_lst (ewa_cons (P := fun v => v = .int 40) (ew_pure ev_c rfl) (ewa_cons (ew_add (P := fun r => 1 ≤ r ∧ r ≤ 40) (ew_c (P := fun r => r = 1) rfl) (ew_drawC (m := 40) rfl ev_c (by decide) (lt8000 (by decide))) (fun x y hx hy => by omega)) ewa_nil)) ?_) ?_) (ew_drawC (m := 2) rfl ev_c (by decide) (lt8000 (by decide))) ?_) hw (by omega) ?_
    · rintro xs ⟨_, _, rfl, _, _, _, rfl, _, rfl⟩
      show 2 ≤ 100000
      decide
    · rintro xs ⟨_, _, rfl, rfl, _, _, rfl, ⟨b, rfl, b0, b1⟩, rfl⟩
      exact ⟨b, rfl, b0, b1⟩
    · rintro xs v ⟨b, rfl, b0, b1⟩ ⟨r, rfl, r0, r1⟩
      obtain ⟨j, rfl⟩ : ∃ j : Nat, r = j := ⟨r.toNat, by omega⟩
      match j, r1 with
      | 0, _ => exact ⟨_, _, rfl, rfl, 40, rfl, by decide, by decide⟩
      | 1, _ => exact ⟨_, _, rfl, rfl, b, rfl, b0, b1⟩
      | j + 2, r1 => omega
    rintro _ H1 b1 w1 ⟨b, rfl, b0, b1'⟩
    refine q_parOWL (C := T.a_Live) (d := 1) (eo_make T) (ewl_told (m := 45) (PU := fun xs => ∃ c : Int, xs = tv ⟨0, c, b⟩ ∧ 1 ≤ c ∧ c ≤ 9) (PL := fun ys => ∃ ds : List Int, ys = vi (rowL ds) ∧ ds.length = 45 ∧ ∀ x ∈ ds, 0 ≤ x) (ewu_mono (ewu_tup (ewa_cons (P := fun v => v = .str "power") (ew_pure ev_c rfl) (ewa_cons (ew_add (P := fun r => 1 ≤ r ∧ r ≤ 9) (ew_c (P := fun r => r = 1) rfl) (ew_drawC (m := 9) rfl ev_c (by decide) (lt8000 (by decide))) (fun x y hx hy => by omega)) (ewa_cons (P := fun v => v = .int b) (ew_pure (ev_var rfl) rfl) ewa_nil))) ?_) ?_) (fun _ => ev_c) ?_) w1 (by omega) ?_
    · rintro xs ⟨_, _, rfl, _, _, _, rfl, _, _, _, rfl, _, rfl⟩
      show 3 ≤ 100000
      decide
    · rintro xs ⟨_, _, rfl, rfl, _, _, rfl, ⟨c, rfl, c0, c1⟩, _, _, rfl, rfl, rfl⟩
      exact ⟨c, rfl, c0, c1⟩
    · rintro p' t xs H2 gp gt ⟨c, rfl, c0, c1⟩
      obtain ⟨ds, dl, dn, de⟩ := pow_row (c := c) (b := b) (by omega) b0 b1'
      refine ⟨_, ⟨ds, rfl, dl, dn⟩, ?_⟩
      rw [← de]
      refine l_told (n := 45) (ts := [⟨0, c, b⟩]) ⟨[t], gp, rfl, fun i a' t' x y => ?_⟩ (Nat.le_refl 1) (show 1 ≤ 12 by decide) (fun t' ht' => ?_) (by decide) (by decide)
      · match i, x, y with
        | 0, x, y =>
          cases x
          cases y
          exact gt
        | i + 1, x, _ => exact nomatch x
      · rw [List.mem_singleton.mp ht']
        exact ⟨show -1000000 ≤ c by omega, show c ≤ 1000000 by omega, show 0 < 3 by decide, (fun _ => ⟨show -40 ≤ b by omega, b1'⟩), (fun h => nomatch h), (fun h => nomatch h)⟩
    rintro p l1 l2 nb _ H2 hp h1 h2 b2 w2 L gN ⟨ds, rfl, dl, dn⟩ n1 n2
    have rl := rowL_length ds
    have fr := free_row dn
    refine q_forLn (ev_var rfl) (sq_of gN) (fun k σ' H' => ∃ (y4 : Option V), σ' = [some (.ref a), some (.int b), some (.ref p), some (.ref nb), y4] ∧ H' nb = some (.lst (vi (rowL ds))) ∧ Liv T.a_Live H' p l1 l2 (ds.take k) ∧ Off [l1, l2] H2 H') ?_ ?_ ?_ ?_
    · intro H3 e3
      exact ⟨_, rfl, e3 _ _ gN, L.ex e3, Off.ex e3⟩
    · rintro i σ' H' _ ⟨y4, rfl, g, _⟩
      exact sq_of g
    · rintro k x σ' H' hx ⟨y4, rfl, g, L', o⟩
      have hk : k < (rowL ds).length := by
        have := (List.getElem?_eq_some_iff.mp hx).1
        rwa [List.length_map] at this
      have hk' : k < ds.length := by omega
      rw [getD_at hk] at hx
      cases hx
      have na := num_at hk'
      have tl := take_len (cs := ds) (k := k) (by omega)
      have dk : 0 ≤ ds.getD k 0 := by
        rw [List.getD_eq_getElem?_getD, List.getElem?_eq_getElem hk']
        exact dn _ (List.getElem_mem _)
      have my : mc (ds.take k) ((rowL ds).getD k 0) = true := by rw [na]; exact mc_yes _ dk
      obtain ⟨⟨dx, hp'⟩, _⟩ := id L'
      refine q_when (b := false) (et_is (et_test (ev_op (ev_var rfl) (ev_var rfl) (rv_notInO hp' (v_contains T L' (by omega))))) (by rw [my]; rfl)) (fun h => nomatch h) fun _ H3 e3 => ?_
      refine s_meth (ev_var rfl) (e3 _ _ hp') (lf_no _ _ (by decide +kernel) (by decide +kernel)) (ea_cons (ev_var rfl) ea_nil) fun H4 e4 => ?_
      refine ⟨p, l1, l2, ds.take k, _, rfl, L'.ex (e3.trans e4), by omega, fun c c0 ec H5 o5 L5 => ?_, fun hf => ?_⟩
      · have ecc : c = ds.getD k 0 := Int.eq_of_mul_eq_mul_left (show stp (ds.take k) ≠ 0 by have := stp_pos (ds.take k); omega) (by omega)
        rw [ecc, take_snoc hk'] at L5
        exact ⟨_, rfl, o5 _ _ (by simp [n1, n2]) ((e3.trans e4) _ _ g), L5, (o.trans (Off.ex (e3.trans e4))).trans o5⟩
      · rw [my] at hf
        cases hf
    · rintro σ' H' ⟨y4, rfl, g, L', o⟩
      rw [List.length_map, rl, List.take_length] at L'
      obtain ⟨⟨dx, hp'⟩, _⟩ := id L'
      have oo : ∀ {H3 : Hp}, Ex H' H3 → But a H H3 := fun {H3} e3 z u nz gz => by
        refine (((Off.but (b1.trans b2) (S := [a, l1, l2]) (by simp)).trans (o.more (by simp))).trans (Off.ex e3)).less (S' := [a]) (fun z hz nz => ?_) z u (by simp [nz]) gz
        simp only [List.mem_cons, List.not_mem_nil, or_false] at hz nz
        rcases hz with rfl | rfl | rfl
        · exact absurd rfl nz
        · exact but_free b1 w1 h1
        · exact but_free b1 w1 h2
      exact s_ret (v := .bl true) (ev_is (ev_andV (a := true) (b := true) (ev_is (ev_eqLV (ns := rowL ds) (ms := rowL ds) (el_meth (ev_var rfl) hp' (lf_no _ _ (by decide +kernel) (by decide +kernel)) ea_nil (l_row_of_live T L' (by omega))) (ev_var rfl) (sq_of g)) (by simp)) fun _ => ev_is (ev_eqLL (ns := ds) (ms := ds) (el_meth (ev_var rfl) hp' (lf_no _ _ (by decide +kernel) (by decide +kernel)) ea_nil (l_rings_of_live T L' (by omega))) (el_is (el_call (ea_cons (ev_var rfl) ea_nil) (l_rings (sq_of g) (by omega) (by omega) fr)) (by rw [rings_row]))) (by simp)) rfl) fun H3 e3 => q H3 (oo e3)
/-! ### _law_next_right -/
def sp_law_next_right (T : Txt K mg) : Sp := fun vs H Q _ => ∃ (a p l1 l2 : Addr) (n : Nat) (cs : List Int), vs = [.ref a, .ref p] ∧ Well H a n ∧ n + 10 ≤ 2 ^ 50 ∧ Liv T.a_Live H p l1 l2 cs ∧ cs.length ≤ 60 ∧ (a ≠ l1 ∧ a ≠ l2) ∧ ∀ H2, Off [a, l1, l2] H H2 → Well H2 a (n + 10) → Liv T.a_Live H2 p l1 l2 cs → Q (.bl true) H2
theorem ok_law_next_right (T : Txt K mg) : FnG PP w K mg base CX0 8 T.a_law_next_right T.d_law_next_right ["well", "live"] (sp_law_next_right T) := by
  refine okG T.F_law_next_right sc_law_next_right (fun vs H Q E h => ?_) (fun cdv A out s H vs Q E hr h => ?_)
  · obtain ⟨a, p, l1, l2, n, cs, rfl, hw, hn, hL, hl, ⟨f1, f2⟩, q⟩ := h
    rfl
  · obtain ⟨a, p, l1, l2, n, cs, rfl, hw, hn, hL, hl, ⟨f1, f2⟩, q⟩ := h
    refine ⟨_, (pss_cons (ps_asg (pe_methG0 (pv 1) T.cl_Live T.m_Live_coming (ok_Live_coming T) (hr.mono (by decide)) (b_Live_coming T) pass0) (pg_tup rfl (pgs_cons (pg_name (i := 2) sc_law_next_right.nd rfl (.inl rfl)) (pgs_cons (pg_name (i := 3) sc_law_next_right.nd rfl (.inl rfl)) pgs_nil))))
    (pss_cons (ps_if (pt_cmpR (op_neDK (K := K) rfl hr.rm.units) (callG (ok_hole T) (hr.mono (by decide)) (by rfl) T.g_hole T.F_hole.kp (b_hole T) .nil pass0 (pa_cons (pe_op op_cat (pe_methG0 (pv 1) T.cl_Live T.m_Live_row (ok_Live_row T) (hr.mono (by decide)) (b_Live_row T) pass0) (pe_lst (pa_cons pe_non pa_nil))) pa_nil)) (pe_tup (pa_cons (pv 2) (pa_cons (pv 3) (pa_cons pe_non pa_nil)))) (nomark _))
      (pss_one (ps_ret pe_bl))
      pss_nil)
    (pss_cons (ps_for PassesOwn.never rfl (pi_listK (K := K) rfl (pe_lst (pa_cons pe_int (pa_cons pe_int (pa_cons (pe_un un_neg pe_int) (pa_cons (pv 3) (pa_cons (pe_un un_neg (pv 3)) (pa_cons (pe_op op_fdivW (pv 3) pe_int) (pa_cons (pe_op op_mul (pv 3) pe_int) (pa_cons (callG (ok_law_draw T) (hr.mono (by decide)) (by rfl) T.g_law_draw T.F_law_draw.kp (b_law_draw T) .nil pass0 (pa_cons (pv 0) (pa_cons pe_int pa_nil))) pa_nil)))))))))) (pg_name (i := 4) sc_law_next_right.nd rfl (.inl rfl))
      (pss_cons (ps_set (i := 5) sc_law_next_right.nd rfl (.inl rfl) (callG (ok_first_bar T) (hr.mono (by decide)) (by rfl) T.g_first_bar T.F_first_bar.kp (b_first_bar T) .nil pass0 (pa_cons (pe_op op_cat (pe_methG0 (pv 1) T.cl_Live T.m_Live_row (ok_Live_row T) (hr.mono (by decide)) (b_Live_row T) pass0) (pe_lst (pa_cons (pe_op op_add (pv 2) (pv 4)) pa_nil))) pa_nil)))
      (pss_cons (ps_if (pt_cmpR op_ne (pe_cmpR (op_inO T.m_Live_contains (ok_Live_contains T) (hr.mono (by decide)) (b_Live_contains T) pass0) (pe_op op_add (pv 2) (pv 4)) (pv 1) rfl) (pe_cmpR op_isN (pv 5) pe_non (nomark _)) (nomark _))
        (pss_one (ps_ret pe_bl))
        pss_nil)
      (pss_one (ps_if (pt_cmpR op_ne (callG (ok_law_barred_at T) (hr.mono (by decide)) (by rfl) T.g_law_barred_at T.F_law_barred_at.kp (b_law_barred_at T) .nil pass0 (pa_cons (pv 1) (pa_cons (pe_op op_add (pv 2) (pv 4)) pa_nil))) (pe_ifExp (pt_cmpR op_isN (pv 5) pe_non (nomark _)) pe_int (pe_ix (ix_tupK (K := K) rfl) (pv 5) pe_int (fun _ _ => rfl))) (nomark _))
        (pss_one (ps_ret pe_bl))
        pss_nil)))))
    (pss_one (ps_ret pe_bl))))), ?_⟩
    obtain ⟨⟨dx, hp⟩, g1, g2, ne, nn⟩ := id hL
    obtain ⟨us, ga⟩ := well_lst hw
    have np : p ≠ a := ins_lst hp ga
    have sp := stp_pos cs
    have rl := rowL_length cs
    refine q_tupU (eu_meth (ev_var rfl) hp (lf_no _ _ (by decide +kernel) (by decide +kernel)) ea_nil (u_coming T hL (by omega))) fun H1 e1 => ?_
    have L1 := hL.ex e1
    have hp1 := e1 _ _ hp
    refine q_when (b := false) (et_is (et_test (ev_neHol (f := low cs) (st := stp cs) (by
      rw [← hole_last nn (by omega)]
      exact ep_callL (xs := itV (rowL cs ++ [0]) cs.length) (el_is (el_cat2 (el_meth (ev_var rfl) hp1 (lf_no _ _ (by decide +kernel) (by decide +kernel)) ea_nil (l_row_of_live T L1 (by omega))) (el_lst (ea_cons ev_c ea_nil) (by show 1 ≤ 100000; decide)) (by rw [List.length_map]; show _ + 1 ≤ _; omega)) (by rw [← rl]; exact (it_last _).symm)) fun p' H2 e2 g2 => p_hole (sq_of g2) (by rw [List.length_append, rl]; show _ < _ + 1; omega) (by rw [List.length_append, rl]; show _ + 1 ≤ _; omega)) (eu_tup (ea_cons (ev_var rfl) (ea_cons (ev_var rfl) (ea_cons ev_c ea_nil))) (by show 3 ≤ 100000; decide)))) rfl) (fun h => nomatch h) fun _ H2 e2 => ?_
    have L2 := L1.ex e2
    have w2 := (hw.ex e1).ex e2
    refine qw_forWL (P := fun xs => ∀ v ∈ xs, ∃ z : Int, v = .int z) (d := 1) (ewl_mono (ewl_lst (ewa_cons (P := fun v => ∃ z : Int, v = .int z) (ew_pure ev_c ⟨_, rfl⟩) (ewa_cons (P := fun v => ∃ z : Int, v = .int z) (ew_pure ev_c ⟨_, rfl⟩) (ewa_cons (P := fun v => ∃ z : Int, v = .int z) (ew_pure (ev_neg ev_c) ⟨_, rfl⟩) (ewa_cons (P := fun v => ∃ z : Int, v = .int z) (ew_pure (ev_var rfl) ⟨_, rfl⟩) (ewa_cons (P := fun v => ∃ z : Int, v = .int z) (ew_pure (ev_neg (ev_var rfl)) ⟨_, rfl⟩) (ewa_cons (P := fun v => ∃ z : Int, v = .int z) (ew_pure (ev_op (ev_var rfl) ev_c (rv_I (cdw _ (by decide) (by decide)))) ⟨_, rfl⟩) (ewa_cons (P := fun v => ∃ z : Int, v = .int z) (ew_pure (ev_op (ev_var rfl) ev_c (rv_I (.inr (by omega)))) ⟨_, rfl⟩) (ewa_cons (P := fun v => ∃ z : Int, v = .int z) (EvW.mono (ew_drawC (m := 100) rfl ev_c (by decide) (lt8000 (by decide))) fun v ⟨r, e, _⟩ => ⟨r, e⟩) ewa_nil)))))))) ?_) ?_) w2 (by omega)
      (fun p5 xs i σ' H' => ∃ (y4 y5 : Option V), σ' = [some (.ref a), some (.ref p), some (.int (low cs)), some (.int (stp cs)), y4, y5] ∧ H' p5 = some (.lst xs) ∧ Well H' a (n + 1) ∧ Liv T.a_Live H' p l1 l2 cs ∧ Off [a, l1, l2] H H' ∧ (p5 ≠ l1 ∧ p5 ≠ l2) ∧ ∀ v ∈ xs, ∃ z : Int, v = .int z) ?_ ?_ ?_ ?_
    · rintro xs ⟨_, _, rfl, _, _, _, rfl, _, _, _, rfl, _, _, _, rfl, _, _, _, rfl, _, _, _, rfl, _, _, _, rfl, _, _, _, rfl, _, rfl⟩
      show 8 ≤ 100000
      decide
    · rintro xs ⟨_, _, rfl, h1, _, _, rfl, h2, _, _, rfl, h3, _, _, rfl, h4, _, _, rfl, h5, _, _, rfl, h6, _, _, rfl, h7, _, _, rfl, h8, rfl⟩ v hv
      simp only [List.mem_cons, List.not_mem_nil, or_false] at hv
      rcases hv with rfl | rfl | rfl | rfl | rfl | rfl | rfl | rfl <;> assumption
    · intro p5 xs H3 f5 b3 w3 g5 px
      have n1 : p5 ≠ l1 := (ne_of_none L2.2.1 f5).symm
      have n2 : p5 ≠ l2 := (ne_of_none L2.2.2.1 f5).symm
      exact ⟨_, _, rfl, g5, w3, L2.off (Off.but b3 (S := [a]) (by simp)) (by simp [np]) (by simp [Ne.symm f1]) (by simp [Ne.symm f2]), (Off.ex (e1.trans e2)).trans (Off.but b3 (by simp)), ⟨n1, n2⟩, px⟩
    · rintro p5 xs i σ' H' _ ⟨y4, y5, rfl, g5, _⟩
      exact sq_of g5
    · rintro p5 xs i x σ' H' hx ⟨y4, y5, rfl, g5, w', L', off, ⟨n1, n2⟩, px⟩
      obtain ⟨z, rfl⟩ := px x (List.mem_of_getElem? hx)
      obtain ⟨⟨dx', hp'⟩, _⟩ := id L'
      refine q_asgB (b := bar (rowL cs ++ [low cs + z])) (eb_callL (xs := vi (rowL cs ++ [low cs + z])) (el_is (el_cat2 (el_meth (ev_var rfl) hp' (lf_no _ _ (by decide +kernel) (by decide +kernel)) ea_nil (l_row_of_live T L' (by omega))) (el_lst (ea_cons (ev_op (ev_var rfl) (ev_var rfl) rv_I0) ea_nil) (by show 1 ≤ 100000; decide)) (by rw [List.length_map]; show _ + 1 ≤ _; omega)) (by rw [← vi_app]; rfl)) fun p' H2 e2 g2 => b_first_bar' (sq_of g2) (by rw [List.length_append]; show 0 < _ + 1; omega) (by rw [List.length_append]; show _ + 1 ≤ _; omega)) fun vb H3 e3 hb => ?_
      rw [bar_last nn (by omega)] at hb
      have L3 := L'.ex e3
      have hp3 := e3 _ _ hp'
      have hN := hb.isN
      refine q_when (b := false) (et_is (et_test (ev_op (ev_op (ev_op (ev_var rfl) (ev_var rfl) rv_I0) (ev_var rfl) (rv_inO hp3 (v_contains T L3 (by omega)))) (ev_is (ev_op (ev_var rfl) ev_c rv_isN) (show _ = V.bl (mc cs (low cs + z)) by rw [hN]; cases mc cs (low cs + z) <;> rfl)) (bool_ne_same _))) rfl) (fun h => nomatch h) fun _ H4 e4 => ?_
      have hb4 := hb.ex e4
      refine s_whenX (R := fun H5 => Off [l1, l2] H4 H5 ∧ Liv T.a_Live H5 p l1 l2 cs) (x_op (x := .int (ban cs (low cs + z))) (y := .int (ban cs (low cs + z))) ?_ ?_ (fun _ => x_ne) (fun H5 H6 h e => ⟨h.1.trans (Off.ex e), h.2.ex e⟩)) ?_
      · intro Q' q'
        refine ⟨.ref p, rfl, (ev_op (ev_var rfl) (ev_var rfl) rv_I0) H4 (Ex.refl H4) _ fun H5 e5 => ⟨p, l1, l2, cs, _, rfl, L3.ex (e4.trans e5), by omega, fun H6 o6 L6 => q' H6 ⟨(Off.ex e5).trans o6, L6⟩⟩⟩
      · rintro H5 ⟨o5, L5⟩
        cases hm : mc cs (low cs + z) with
        | true =>
          rw [hm, if_pos rfl] at hb4
          have hv : vb = .non := hb4
          subst hv
          exact ev_if (b := true) (et_is (et_test (ev_op (ev_var rfl) ev_c rv_isN)) rfl) (fun _ => ev_is ev_c (by unfold ban; rw [if_pos hm])) (fun h => nomatch h)
        | false =>
          rw [hm, if_neg Bool.false_ne_true] at hb4
          obtain ⟨qb, rfl, gb⟩ := hb4
          have q1 : qb ≠ l1 := fun e => by
            rw [e, (L3.ex e4).2.1] at gb
            cases gb
          have q2 : qb ≠ l2 := fun e => by
            rw [e, (L3.ex e4).2.2.1] at gb
            cases gb
          exact ev_if (b := false) (et_is (et_test (ev_op (ev_var rfl) ev_c rv_isN)) rfl) (fun h => nomatch h) (fun _ => ev_is (ev_op (ev_var rfl) ev_c (rv_ixT (st_of (o5 _ _ (by simp [q1, q2]) gb)) rfl)) (by unfold ban stp; rw [hm, if_neg Bool.false_ne_true]; congr 1; omega))
      · rintro H5 ⟨o5, L5⟩
        exact ⟨_, _, rfl, o5 _ _ (by simp [n1, n2]) ((e3.trans e4) _ _ g5), Well.off ((w'.ex e3).ex e4) o5 (by simp [f1, f2]), L5, (off.trans (Off.ex (e3.trans e4))).trans (o5.more (by simp)), ⟨n1, n2⟩, px⟩
    · rintro p5 xs σ' H' ⟨y4, y5, rfl, g5, w', L', off, _, _⟩
      exact s_ret ev_c fun H3 e3 => q H3 (off.trans (Off.ex e3)) ((w'.ex e3).mono (by omega)) (L'.ex e3)
/-! ### _law_right -/
def sp_law_right (T : Txt K mg) : Sp := fun vs H Q _ => ∃ (a : Addr) (n : Nat), vs = [.ref a] ∧ Well H a n ∧ n + 10000 ≤ 2 ^ 50 ∧ ∀ H2, But a H H2 → Q (.bl true) H2
theorem ok_law_right (T : Txt K mg) : FnG PP w K mg base CX0 9 T.a_law_right T.d_law_right ["well"] (sp_law_right T) := by
  refine okG T.F_law_right sc_law_right (fun vs H Q E h => ?_) (fun cdv A out s H vs Q E hr h => ?_)
  · obtain ⟨a, n, rfl, hw, hn, q⟩ := h
    rfl
  · obtain ⟨a, n, rfl, hw, hn, q⟩ := h
    refine ⟨_, (pss_cons (ps_set (i := 1) sc_law_right.nd rfl (.inl rfl) (pe_makeG0 T.k_Live (ok_Live_init T) (hr.mono (by decide)) (by rfl) T.g_Live (b_Live_init T) pass0))
    (pss_cons (ps_for PassesOwn.never rfl (pi_range1 (by rfl) T.z_range (pa_cons (pe_op op_add pe_int (callG (ok_law_draw T) (hr.mono (by decide)) (by rfl) T.g_law_draw T.F_law_draw.kp (b_law_draw T) .nil pass0 (pa_cons (pv 0) (pa_cons pe_int pa_nil)))) pa_nil)) (pg_name (i := 2) sc_law_right.nd rfl (.inl rfl))
      (pss_cons (ps_if (pt_cmpR op_eq (callG (ok_law_draw T) (hr.mono (by decide)) (by rfl) T.g_law_draw T.F_law_draw.kp (b_law_draw T) .nil pass0 (pa_cons (pv 0) (pa_cons pe_int pa_nil))) pe_int (nomark _))
        (pss_one (ps_expr (pe_methG (pv 1) T.cl_Live T.m_Live_lay (ok_Live_lay T) (hr.mono (by decide)) (b_Live_lay T) passL (pa_cons (callG (ok_law_draw T) (hr.mono (by decide)) (by rfl) T.g_law_draw T.F_law_draw.kp (b_law_draw T) .nil pass0 (pa_cons (pv 0) (pa_cons pe_int pa_nil))) pa_nil))))
        (pss_cons (ps_asg (pe_methG0 (pv 1) T.cl_Live T.m_Live_coming (ok_Live_coming T) (hr.mono (by decide)) (b_Live_coming T) pass0) (pg_tup rfl (pgs_cons (pg_name (i := 3) sc_law_right.nd rfl (.inl rfl)) (pgs_cons (pg_name (i := 4) sc_law_right.nd rfl (.inl rfl)) pgs_nil))))
        (pss_one (ps_expr (pe_methG (pv 1) T.cl_Live T.m_Live_tell (ok_Live_tell T) (hr.mono (by decide)) (b_Live_tell T) passL (pa_cons (pe_op op_add (pv 3) (pe_op op_mul (pv 4) (callG (ok_law_draw T) (hr.mono (by decide)) (by rfl) T.g_law_draw T.F_law_draw.kp (b_law_draw T) .nil pass0 (pa_cons (pv 0) (pa_cons pe_int pa_nil))))) pa_nil))))))
      (pss_cons (ps_if (pt_cmpR op_eq (callG (ok_law_draw T) (hr.mono (by decide)) (by rfl) T.g_law_draw T.F_law_draw.kp (b_law_draw T) .nil pass0 (pa_cons (pv 0) (pa_cons pe_int pa_nil))) pe_int (nomark _))
        (pss_one (ps_expr (pe_methG0 (pv 1) T.cl_Live T.m_Live_undo (ok_Live_undo T) (hr.mono (by decide)) (b_Live_undo T) passL)))
        pss_nil)
      (pss_one (ps_if (pt_not (pt_val (callG (ok_law_next_right T) (hr.mono (by decide)) (by rfl) T.g_law_next_right T.F_law_next_right.kp (b_law_next_right T) .nil pass0 (pa_cons (pv 0) (pa_cons (pv 1) pa_nil)))))
        (pss_one (ps_ret pe_bl))
        pss_nil)))))
    (pss_cons (ps_if (pt_cmpR op_eq (pe_callB (call_lenO T.m_Live_len (ok_Live_len T) (hr.mono (by decide)) (b_Live_len T) pass0) (by rfl) T.z_len bt_len (pa_cons (pv 1) pa_nil)) pe_int (nomark _))
      (pss_one (ps_ret (pe_and (pe_cmpR (op_eqDK (K := K) rfl hr.rm.units) (pe_methG0 (pv 1) T.cl_Live T.m_Live_row (ok_Live_row T) (hr.mono (by decide)) (b_Live_row T) pass0) (pe_lst pa_nil) (nomark _)) (pe_and (pe_cmpR (op_eqDK (K := K) rfl hr.rm.units) (pe_methG0 (pv 1) T.cl_Live T.m_Live_rings (ok_Live_rings T) (hr.mono (by decide)) (b_Live_rings T) pass0) (pe_lst pa_nil) (nomark _)) (pe_one (pe_cmpR op_eq (pe_propG (pv 1) T.cl_Live T.p_Live_things (ok_Live_things T) (hr.mono (by decide)) (b_Live_things T) pass0 rfl) pe_int (nomark _)))))))
      pss_nil)
    (pss_one (ps_ret (pe_and (pe_cmpR (op_eqDK (K := K) rfl hr.rm.units) (callG (ok_rings T) (hr.mono (by decide)) (by rfl) T.g_rings T.F_rings.kp (b_rings T) .nil pass0 (pa_cons (pe_methG0 (pv 1) T.cl_Live T.m_Live_row (ok_Live_row T) (hr.mono (by decide)) (b_Live_row T) pass0) pa_nil)) (pe_methG0 (pv 1) T.cl_Live T.m_Live_rings (ok_Live_rings T) (hr.mono (by decide)) (b_Live_rings T) pass0) (nomark _)) (pe_one (callG (ok_law_shuffle_right T) (hr.mono (by decide)) (by rfl) T.g_law_shuffle_right T.F_law_shuffle_right.kp (b_law_shuffle_right T) .nil pass0 (pa_cons (pv 1) pa_nil))))))))), ?_⟩
    obtain ⟨us, ga⟩ := well_lst hw
    refine q_asgO (C := T.a_Live) (eo_make T) fun p l1 l2 H1 hp h1 h2 e1 L => ?_
    have f1 : a ≠ l1 := ne_of_none ga h1
    have f2 : a ≠ l2 := ne_of_none ga h2
    have np : p ≠ a := fun z => by
      rw [z, ga] at hp
      cases hp
    have w1 := hw.ex e1
    refine qw_forR1 (P := fun r => 1 ≤ r ∧ r ≤ 16) (ew_add (P := fun r => 1 ≤ r ∧ r ≤ 16) (ew_c (P := fun r => r = 1) rfl) (ew_drawC (m := 16) rfl ev_c (by decide) (lt8000 (by decide))) (fun x y hx hy => by omega)) (fun r hr => by omega) w1 (by omega)
      (fun k σ' H' => ∃ (y2 y3 y4 : Option V) (cs : List Int), σ' = [some (.ref a), some (.ref p), y2, y3, y4] ∧ Well H' a (n + 1 + k * 20) ∧ Liv T.a_Live H' p l1 l2 cs ∧ cs.length ≤ k ∧ Off [a, l1, l2] H1 H') ?_ ?_ ?_
    · intro r H3 hr b3 w3
      exact ⟨_, _, _, [], rfl, w3, L.off (Off.but b3 (S := [a]) (by simp)) (by simp [np]) (by simp [Ne.symm f1]) (by simp [Ne.symm f2]), Nat.le_refl _, Off.but b3 (by simp)⟩
    · rintro r k σ' H' hr hk ⟨y2, y3, y4, cs, rfl, w, L', lk, o⟩
      have hk' : k < 16 := by omega
      obtain ⟨⟨dx, hp'⟩, _, _, _, nn⟩ := id L'
      refine qw_if (d := 1) (ew_eq (P1 := fun r => 0 ≤ r ∧ r < 2) (P2 := fun r => r = 0) (ew_drawC (m := 2) rfl ev_c (by decide) (lt8000 (by decide))) (ew_c rfl)) w (by omega) (fun H2 b2 w2 => ?_) (fun H2 b2 w2 => ?_)
      · have L2 := L'.off (Off.but b2 (S := [a]) (by simp)) (by simp [np]) (by simp [Ne.symm f1]) (by simp [Ne.symm f2])
        obtain ⟨⟨dx2, hp2⟩, _⟩ := id L2
        refine qw_meth (d := 1) (ev_var rfl) hp2 (lf_no _ _ (by decide +kernel) (by decide +kernel)) (ew_drawC (m := 4) rfl ev_c (by decide) (lt8000 (by decide))) w2 (by omega) ?_
        rintro _ H3 b3 w3 ⟨c, rfl, c0, c1⟩
        refine ⟨p, l1, l2, cs, c, rfl, L2.off (Off.but b3 (S := [a]) (by simp)) (by simp [np]) (by simp [Ne.symm f1]) (by simp [Ne.symm f2]), by omega, fun _ H4 o4' L4 => ?_, fun hf => absurd hf (by omega)⟩
        have w4 := Well.off w3 o4' (by simp [f1, f2])
        have o4 := ((o.trans (Off.but b2 (S := [a, l1, l2]) (by simp))).trans (Off.but b3 (by simp))).trans (o4'.more (by simp))
        obtain ⟨⟨dx4, hp4⟩, _⟩ := id L4
        refine qw_if (d := 1) (ew_eq (P1 := fun r => 0 ≤ r ∧ r < 6) (P2 := fun r => r = 0) (ew_drawC (m := 6) rfl ev_c (by decide) (lt8000 (by decide))) (ew_c rfl)) w4 (by omega) (fun H5 b5 w5 => ?_) (fun H5 b5 w5 => ?_)
        · have L5 := L4.off (Off.but b5 (S := [a]) (by simp)) (by simp [np]) (by simp [Ne.symm f1]) (by simp [Ne.symm f2])
          obtain ⟨⟨dx5, hp5⟩, _⟩ := id L5
          refine s_meth (ev_var rfl) hp5 (lf_no _ _ (by decide +kernel) (by decide +kernel)) ea_nil fun H6 e6 => ?_
          refine ⟨p, l1, l2, cs ++ [c], rfl, L5.ex e6, fun ds c' ed H7 o7 L7 => ?_, fun z => absurd z (by simp)⟩
          obtain ⟨ed1, _⟩ := List.append_inj' ed rfl
          rw [← ed1] at L7
          refine ⟨.ref a, rfl, .ref p, rfl, a, p, l1, l2, _, cs, rfl, Well.off (w5.ex e6) o7 (by simp [f1, f2]), by omega, L7, by omega, ⟨f1, f2⟩, fun H8 o8 w8 L8 => ⟨true, rfl, iteF ?_⟩⟩
          exact ⟨_, _, _, cs, rfl, w8.mono (by omega), L8, by omega, ((o4.trans (Off.but b5 (by simp))).trans ((Off.ex e6).trans (o7.more (by simp)))).trans o8⟩
        · have L5 := L4.off (Off.but b5 (S := [a]) (by simp)) (by simp [np]) (by simp [Ne.symm f1]) (by simp [Ne.symm f2])
          refine ⟨.ref a, rfl, .ref p, rfl, a, p, l1, l2, _, cs ++ [c], rfl, w5, by omega, L5, by rw [List.length_append]; show _ + 1 ≤ _; omega, ⟨f1, f2⟩, fun H8 o8 w8 L8 => ⟨true, rfl, iteF ?_⟩⟩
          exact ⟨_, _, _, cs ++ [c], rfl, w8.mono (by omega), L8, by rw [List.length_append]; show _ + 1 ≤ _; omega, (o4.trans (Off.but b5 (by simp))).trans o8⟩
      · have L2 := L'.off (Off.but b2 (S := [a]) (by simp)) (by simp [np]) (by simp [Ne.symm f1]) (by simp [Ne.symm f2])
        obtain ⟨⟨dx2, hp2⟩, _⟩ := id L2
        have sp := stp_pos cs
        refine q_tupU (eu_meth (ev_var rfl) hp2 (lf_no _ _ (by decide +kernel) (by decide +kernel)) ea_nil (u_coming T L2 (by omega))) fun H2' e2 => ?_
        have L2' := L2.ex e2
        refine qw_meth (PV := fun v => ∃ g : Int, v = .int (low cs + stp cs * g) ∧ 0 ≤ g) (d := 1) (ev_var rfl) (e2 _ _ hp2) (lf_no _ _ (by decide +kernel) (by decide +kernel)) (ew_op (d1 := 0) (d2 := 1) (P1 := fun v => v = .int (low cs)) (P2 := fun v => ∃ g : Int, v = .int (stp cs * g) ∧ 0 ≤ g) (ew_pure (ev_var rfl) rfl) (ew_op (d1 := 0) (d2 := 1) (P1 := fun v => v = .int (stp cs)) (P2 := fun v => ∃ g : Int, v = .int g ∧ 0 ≤ g ∧ g < 3) (ew_pure (ev_var rfl) rfl) (ew_drawC (m := 3) rfl ev_c (by decide) (lt8000 (by decide))) ?_) ?_) (w2.ex e2) (by omega) ?_
        · rintro x y rfl ⟨g, rfl, g0, g1⟩
          exact ⟨.int (stp cs * g), fun H => rv_I (.inr (by omega)), g, rfl, g0⟩
        · rintro x y rfl ⟨g, rfl, g0⟩
          exact ⟨.int (low cs + stp cs * g), fun H => rv_I0, g, rfl, g0⟩
        rintro _ H3 b3 w3 ⟨g, rfl, g0⟩
        refine ⟨p, l1, l2, cs, _, rfl, L2'.off (Off.but b3 (S := [a]) (by simp)) (by simp [np]) (by simp [Ne.symm f1]) (by simp [Ne.symm f2]), by omega, fun c c0 ec H4 o4' L4 => ?_, fun hf => absurd (mc_yes cs g0) (by rw [hf]; simp)⟩
        have w4 := Well.off w3 o4' (by simp [f1, f2])
        have o4 := (((o.trans (Off.but b2 (S := [a, l1, l2]) (by simp))).trans (Off.ex e2)).trans (Off.but b3 (by simp))).trans (o4'.more (by simp))
        obtain ⟨⟨dx4, hp4⟩, _⟩ := id L4
        refine qw_if (d := 1) (ew_eq (P1 := fun r => 0 ≤ r ∧ r < 6) (P2 := fun r => r = 0) (ew_drawC (m := 6) rfl ev_c (by decide) (lt8000 (by decide))) (ew_c rfl)) w4 (by omega) (fun H5 b5 w5 => ?_) (fun H5 b5 w5 => ?_)
        · have L5 := L4.off (Off.but b5 (S := [a]) (by simp)) (by simp [np]) (by simp [Ne.symm f1]) (by simp [Ne.symm f2])
          obtain ⟨⟨dx5, hp5⟩, _⟩ := id L5
          refine s_meth (ev_var rfl) hp5 (lf_no _ _ (by decide +kernel) (by decide +kernel)) ea_nil fun H6 e6 => ?_
          refine ⟨p, l1, l2, cs ++ [c], rfl, L5.ex e6, fun ds c' ed H7 o7 L7 => ?_, fun z => absurd z (by simp)⟩
          obtain ⟨ed1, _⟩ := List.append_inj' ed rfl
          rw [← ed1] at L7
          refine ⟨.ref a, rfl, .ref p, rfl, a, p, l1, l2, _, cs, rfl, Well.off (w5.ex e6) o7 (by simp [f1, f2]), by omega, L7, by omega, ⟨f1, f2⟩, fun H8 o8 w8 L8 => ⟨true, rfl, iteF ?_⟩⟩
          exact ⟨_, _, _, cs, rfl, w8.mono (by omega), L8, by omega, ((o4.trans (Off.but b5 (by simp))).trans ((Off.ex e6).trans (o7.more (by simp)))).trans o8⟩
        · have L5 := L4.off (Off.but b5 (S := [a]) (by simp)) (by simp [np]) (by simp [Ne.symm f1]) (by simp [Ne.symm f2])
          refine ⟨.ref a, rfl, .ref p, rfl, a, p, l1, l2, _, cs ++ [c], rfl, w5, by omega, L5, by rw [List.length_append]; show _ + 1 ≤ _; omega, ⟨f1, f2⟩, fun H8 o8 w8 L8 => ⟨true, rfl, iteF ?_⟩⟩
          exact ⟨_, _, _, cs ++ [c], rfl, w8.mono (by omega), L8, by rw [List.length_append]; show _ + 1 ≤ _; omega, (o4.trans (Off.but b5 (by simp))).trans o8⟩
    · rintro r σ' H' hr ⟨y2, y3, y4, cs, rfl, w, L', lk, o⟩
      have oo : ∀ {H3 : Hp}, Ex H' H3 → But a H H3 := fun {H3} e3 z u nz g => by
        refine ((((Off.ex (S := [a, l1, l2]) e1).trans o).trans (Off.ex e3)).less (S' := [a]) fun z hz nz => ?_) z u (by simp [nz]) g
        simp only [List.mem_cons, List.not_mem_nil, or_false] at hz nz
        rcases hz with rfl | rfl | rfl
        · exact absurd rfl nz
        · exact h1
        · exact h2
      have lk : cs.length ≤ 16 := by omega
      obtain ⟨⟨dx, hp'⟩, _, _, _, nn⟩ := id L'
      have rl := rowL_length cs
      have fr := free_row nn
      refine q_when (b := decide (cs.length = 0)) (et_is (et_test (ev_op (ev_lenO (n := cs.length) (ev_var rfl) hp' (v_len_of_live T L') (by omega)) ev_c (rv_eq rfl))) (decide_eq_decide.mpr ⟨fun z => by have := V.int.inj z; omega, fun z => by rw [z]; rfl⟩)) (fun hb H3 e3 => ?_) fun hb H3 e3 => ?_
      · have c0 : cs = [] := List.length_eq_zero_iff.mp (of_decide_eq_true hb)
        subst c0
        have L3 := L'.ex e3
        have hp3 := e3 _ _ hp'
        exact s_ret (v := .bl true) (ev_is (ev_andV (a := true) (b := true) (ev_is (ev_eqLL (ns := []) (ms := []) (el_meth (ev_var rfl) hp3 (lf_no _ _ (by decide +kernel) (by decide +kernel)) ea_nil (l_row_of_live T L3 (by omega))) (el_lst ea_nil (Nat.zero_le _))) rfl) fun _ => ev_andV (a := true) (b := true) (ev_is (ev_eqLL (ns := []) (ms := []) (el_meth (ev_var rfl) hp3 (lf_no _ _ (by decide +kernel) (by decide +kernel)) ea_nil (l_rings_of_live T L3 (by omega))) (el_lst ea_nil (Nat.zero_le _))) rfl) fun _ => ev_is (ev_op (ev_prop (ev_var rfl) hp3 (v_things T L3 (by omega))) ev_c (rv_eq rfl)) rfl) rfl) fun H4 e4 => q H4 (oo (e3.trans e4))
      · have c0 : 0 < cs.length := by have := of_decide_eq_false hb; omega
        have L3 := L'.ex e3
        have hp3 := e3 _ _ hp'
        exact s_ret (v := .bl true) (ev_is (ev_andV (a := true) (b := true) (ev_is (ev_eqLL (ns := cs) (ms := cs) (el_is (el_callL (el_meth (ev_var rfl) hp3 (lf_no _ _ (by decide +kernel) (by decide +kernel)) ea_nil (l_row_of_live T L3 (by omega))) fun r H5 e5 g5 => l_rings (sq_of g5) (by omega) (by omega) fr) (by rw [rings_row])) (el_meth (ev_var rfl) hp3 (lf_no _ _ (by decide +kernel) (by decide +kernel)) ea_nil (l_rings_of_live T L3 (by omega)))) (by simp)) fun _ => ev_call (ea_cons (ev_var rfl) ea_nil) (v_law_shuffle_right T L3 c0 (by omega))) rfl) fun H4 e4 => q H4 (oo (e3.trans e4))
/-! ### law -/
def sp_law (K : PySem.W.Frag) : Sp := fun vs H Q _ => ∃ (a : Addr) (ns : List Int), vs = [.ref a] ∧ SqL K H a (vi ns) ∧ ns.length ≤ 63 ∧ ∀ H', Q (.bl true) H'
theorem ok_law (T : Txt K mg) : FnG PP w K mg base CX0 10 T.a_law T.d_law ["script"] (sp_law K) := by
  refine okG T.F_law sc_law (fun vs H Q E h => ?_) (fun cdv A out s H vs Q E hr h => ?_)
  · obtain ⟨a, ns, rfl, hS, hl, q⟩ := h
    rfl
  · obtain ⟨a, ns, rfl, hS, hl, q⟩ := h
    refine ⟨_, (pss_cons (ps_for PassesOwn.never rfl (pi_range1 (by rfl) T.z_range (pa_cons (pe_callB (call_max2 rfl) (by rfl) T.z_max bt_max (pa_cons pe_int (pa_cons (pe_callB (call_min2 rfl) (by rfl) T.z_min bt_min (pa_cons pe_int (pa_cons (pe_callB (call_lenK (K := K) rfl) (by rfl) T.z_len bt_len (pa_cons (pv 0) pa_nil)) pa_nil))) pa_nil))) pa_nil)) (pg_name (i := 1) sc_law.nd rfl (.inl rfl))
      (pss_one (ps_if (pt_not (pt_val (callG (ok_law_right T) (hr.mono (by decide)) (by rfl) T.g_law_right T.F_law_right.kp (b_law_right T) .nil pass0 (pa_cons (callG (ok_law_well T) (hr.mono (by decide)) (by rfl) T.g_law_well T.F_law_well.kp (b_law_well T) .nil pass0 (pa_cons (pv 0) (pa_cons (pv 1) pa_nil))) pa_nil))))
        (pss_one (ps_ret pe_bl))
        pss_nil)))
    (pss_one (ps_ret (callG (ok_law_great_right T) (hr.mono (by decide)) (by rfl) T.g_law_great_right T.F_law_great_right.kp (b_law_great_right T) .nil pass0 (pa_cons (callG (ok_law_well T) (hr.mono (by decide)) (by rfl) T.g_law_well T.F_law_well.kp (b_law_well T) .nil pass0 (pa_cons (pv 0) (pa_cons pe_int pa_nil))) pa_nil))))), ?_⟩
    refine q_forR1 (ea_cons (ev_max2 ev_c (ev_min2 ev_c (ev_len (ev_var rfl) hS))) ea_nil) ?_ (fun i σ' H' => ∃ y1, σ' = [some (.ref a), y1] ∧ Ex H H') ?_ ?_ ?_
    · split <;> split <;> omega
    · intro H1 e1
      exact ⟨_, rfl, e1⟩
    · rintro i σ' H' hi ⟨y1, rfl, e⟩
      have h6 : (i : Int) < 9 := by
        split at hi <;> split at hi <;> omega
      refine ⟨.ref a, rfl, .int i, rfl, a, ns, i, rfl, ex_l e hS, by omega, by omega, fun p H1 hp e1 hw => ?_⟩
      refine ⟨p, 0, rfl, hw, by decide, fun H2 b2 => ⟨true, rfl, iteF ?_⟩⟩
      exact ⟨_, rfl, e.trans (ex_but e1 hp b2)⟩
    · rintro σ' H' ⟨y1, rfl, e⟩
      refine ⟨.ref a, rfl, a, ns, 0, rfl, ex_l e hS, by decide, by decide, fun p H1 hp e1 hw => ?_⟩
      exact ⟨p, 0, rfl, hw, by decide, fun H2 b2 => q H2⟩
end
theorem all_mk {w : World} {K : PySem.W.Frag} {h : Heap} {mg : Str → Option Value} {fa : Addr} (X : K.In h) (G : h.Ns mainGlobals mg) (hfa : mg "law" = some (.ref fa))
    {C_Live : Addr} (aC_Live : PySem.W.nsIn K mainGlobals "Live" = some (some (.ref C_Live)))
    (pg_Live : PySem.W.plainGet K C_Live Str.empty = true)
    (hd_Live : PySem.W.hasDictIn K C_Live = true)
    (po_Live : PySem.W.plainOver K C_Live = true)
    (sa_Live : PySem.W.findIn K (.ref C_Live) "__setattr__" = some (some (.builtin "object.__setattr__")))
    (mk_Live : PySem.W.makesIn K C_Live = true)
    (kc_Live : PySem.W.keepIn K (.ref C_Live) = true)
    (na_Live_counts : PySem.W.findIn K (.ref C_Live) "_counts" = some none)
    (na_Live_numbers : PySem.W.findIn K (.ref C_Live) "_numbers" = some none)
    {f0 : Addr} {od0 an0 : Option Addr} {sl0 : Array (Option Value)} {oc0 kV0 dc0 pm0 cd0 ct0 : Value}
    (a0 : PySem.W.nsIn K mainGlobals "is_whole" = some (some (.ref f0))) (l0 : K.lookup f0 = some ⟨oc0, od0, .func (PySem.W.fnOf "is_whole" "is_whole" (defArgs s_is_whole) (defBody s_is_whole) (defScope s_is_whole) .none kV0 dc0 pm0 an0 cd0 ct0), sl0⟩) (c0 : PySem.W.codeIn K cd0 "is_whole" = true) (k0 : PySem.W.keepIn K (.ref f0) = true)
    {f1 : Addr} {od1 an1 : Option Addr} {sl1 : Array (Option Value)} {oc1 kV1 dc1 pm1 cd1 ct1 : Value}
    (a1 : PySem.W.findIn K (.ref C_Live) "__init__" = some (some (.ref f1))) (i1 : PySem.W.isFn K (.ref f1) = true)
    (l1 : K.lookup f1 = some ⟨oc1, od1, .func (PySem.W.fnOf "__init__" "Live.__init__" (defArgs s_Live_init) (defBody s_Live_init) (defScope s_Live_init) .none kV1 dc1 pm1 an1 cd1 ct1), sl1⟩) (c1 : PySem.W.codeIn K cd1 "Live.__init__" = true) (k1 : PySem.W.keepIn K (.ref f1) = true)
    {f2 : Addr} {od2 an2 : Option Addr} {sl2 : Array (Option Value)} {oc2 kV2 dc2 pm2 cd2 ct2 : Value}
    (a2 : PySem.W.findIn K (.ref C_Live) "coming" = some (some (.ref f2))) (i2 : PySem.W.isFn K (.ref f2) = true)
    (l2 : K.lookup f2 = some ⟨oc2, od2, .func (PySem.W.fnOf "coming" "Live.coming" (defArgs s_Live_coming) (defBody s_Live_coming) (defScope s_Live_coming) .none kV2 dc2 pm2 an2 cd2 ct2), sl2⟩) (c2 : PySem.W.codeIn K cd2 "Live.coming" = true) (k2 : PySem.W.keepIn K (.ref f2) = true)
    {f3 : Addr} {od3 an3 : Option Addr} {sl3 : Array (Option Value)} {oc3 kV3 dc3 pm3 cd3 ct3 : Value}
    (a3 : PySem.W.findIn K (.ref C_Live) "row" = some (some (.ref f3))) (i3 : PySem.W.isFn K (.ref f3) = true)
    (l3 : K.lookup f3 = some ⟨oc3, od3, .func (PySem.W.fnOf "row" "Live.row" (defArgs s_Live_row) (defBody s_Live_row) (defScope s_Live_row) .none kV3 dc3 pm3 an3 cd3 ct3), sl3⟩) (c3 : PySem.W.codeIn K cd3 "Live.row" = true) (k3 : PySem.W.keepIn K (.ref f3) = true)
    {f4 : Addr} {od4 an4 : Option Addr} {sl4 : Array (Option Value)} {oc4 kV4 dc4 pm4 cd4 ct4 : Value}
    (a4 : PySem.W.findIn K (.ref C_Live) "rings" = some (some (.ref f4))) (i4 : PySem.W.isFn K (.ref f4) = true)
    (l4 : K.lookup f4 = some ⟨oc4, od4, .func (PySem.W.fnOf "rings" "Live.rings" (defArgs s_Live_rings) (defBody s_Live_rings) (defScope s_Live_rings) .none kV4 dc4 pm4 an4 cd4 ct4), sl4⟩) (c4 : PySem.W.codeIn K cd4 "Live.rings" = true) (k4 : PySem.W.keepIn K (.ref f4) = true)
    {f5 : Addr} {od5 an5 : Option Addr} {sl5 : Array (Option Value)} {oc5 kV5 dc5 pm5 cd5 ct5 : Value}
    (a5 : PySem.W.findIn K (.ref C_Live) "__len__" = some (some (.ref f5))) (i5 : PySem.W.isFn K (.ref f5) = true)
    (l5 : K.lookup f5 = some ⟨oc5, od5, .func (PySem.W.fnOf "__len__" "Live.__len__" (defArgs s_Live_len) (defBody s_Live_len) (defScope s_Live_len) .none kV5 dc5 pm5 an5 cd5 ct5), sl5⟩) (c5 : PySem.W.codeIn K cd5 "Live.__len__" = true) (k5 : PySem.W.keepIn K (.ref f5) = true)
    {f6 : Addr} {od6 an6 : Option Addr} {sl6 : Array (Option Value)} {oc6 kV6 dc6 pm6 cd6 ct6 : Value}
    {pp6 : Addr} {rest6 : List Value} (a6 : PySem.W.findIn K (.ref C_Live) "things" = some (some (.ref pp6))) (pq6 : PySem.W.specialIn K (.ref pp6) "__get__" = some (some (.builtin "property.__get__"))) (pt6 : PySem.W.takesIn K (.ref pp6) = some true) (pr6 : PySem.W.recIn K pp6 "property" = some (.ref f6 :: rest6))
    (l6 : K.lookup f6 = some ⟨oc6, od6, .func (PySem.W.fnOf "things" "Live.things" (defArgs s_Live_things) (defBody s_Live_things) (defScope s_Live_things) .none kV6 dc6 pm6 an6 cd6 ct6), sl6⟩) (c6 : PySem.W.codeIn K cd6 "Live.things" = true) (k6 : PySem.W.keepIn K (.ref f6) = true)
    {f7 : Addr} {od7 an7 : Option Addr} {sl7 : Array (Option Value)} {oc7 kV7 dc7 pm7 cd7 ct7 : Value}
    (a7 : PySem.W.findIn K (.ref C_Live) "_put" = some (some (.ref f7))) (i7 : PySem.W.isFn K (.ref f7) = true)
    (l7 : K.lookup f7 = some ⟨oc7, od7, .func (PySem.W.fnOf "_put" "Live._put" (defArgs s_Live_put) (defBody s_Live_put) (defScope s_Live_put) .none kV7 dc7 pm7 an7 cd7 ct7), sl7⟩) (c7 : PySem.W.codeIn K cd7 "Live._put" = true) (k7 : PySem.W.keepIn K (.ref f7) = true)
    {f8 : Addr} {od8 an8 : Option Addr} {sl8 : Array (Option Value)} {oc8 kV8 dc8 pm8 cd8 ct8 : Value}
    (a8 : PySem.W.nsIn K mainGlobals "to_power" = some (some (.ref f8))) (l8 : K.lookup f8 = some ⟨oc8, od8, .func (PySem.W.fnOf "to_power" "to_power" (defArgs s_to_power) (defBody s_to_power) (defScope s_to_power) .none kV8 dc8 pm8 an8 cd8 ct8), sl8⟩) (c8 : PySem.W.codeIn K cd8 "to_power" = true) (k8 : PySem.W.keepIn K (.ref f8) = true)
    {f9 : Addr} {od9 an9 : Option Addr} {sl9 : Array (Option Value)} {oc9 kV9 dc9 pm9 cd9 ct9 : Value}
    (a9 : PySem.W.nsIn K mainGlobals "_first_with_rest" = some (some (.ref f9))) (l9 : K.lookup f9 = some ⟨oc9, od9, .func (PySem.W.fnOf "_first_with_rest" "_first_with_rest" (defArgs s_first_with_rest) (defBody s_first_with_rest) (defScope s_first_with_rest) .none kV9 dc9 pm9 an9 cd9 ct9), sl9⟩) (c9 : PySem.W.codeIn K cd9 "_first_with_rest" = true) (k9 : PySem.W.keepIn K (.ref f9) = true)
    {f10 : Addr} {od10 an10 : Option Addr} {sl10 : Array (Option Value)} {oc10 kV10 dc10 pm10 cd10 ct10 : Value}
    (a10 : PySem.W.nsIn K mainGlobals "_powers" = some (some (.ref f10))) (l10 : K.lookup f10 = some ⟨oc10, od10, .func (PySem.W.fnOf "_powers" "_powers" (defArgs s_powers) (defBody s_powers) (defScope s_powers) .none kV10 dc10 pm10 an10 cd10 ct10), sl10⟩) (c10 : PySem.W.codeIn K cd10 "_powers" = true) (k10 : PySem.W.keepIn K (.ref f10) = true)
    {f11 : Addr} {od11 an11 : Option Addr} {sl11 : Array (Option Value)} {oc11 kV11 dc11 pm11 cd11 ct11 : Value}
    (a11 : PySem.W.nsIn K mainGlobals "_check_things" = some (some (.ref f11))) (l11 : K.lookup f11 = some ⟨oc11, od11, .func (PySem.W.fnOf "_check_things" "_check_things" (defArgs s_check_things) (defBody s_check_things) (defScope s_check_things) .none kV11 dc11 pm11 an11 cd11 ct11), sl11⟩) (c11 : PySem.W.codeIn K cd11 "_check_things" = true) (k11 : PySem.W.keepIn K (.ref f11) = true)
    {f12 : Addr} {od12 an12 : Option Addr} {sl12 : Array (Option Value)} {oc12 kV12 dc12 pm12 cd12 ct12 : Value}
    (a12 : PySem.W.nsIn K mainGlobals "_law_draw" = some (some (.ref f12))) (l12 : K.lookup f12 = some ⟨oc12, od12, .func (PySem.W.fnOf "_law_draw" "_law_draw" (defArgs s_law_draw) (defBody s_law_draw) (defScope s_law_draw) .none kV12 dc12 pm12 an12 cd12 ct12), sl12⟩) (c12 : PySem.W.codeIn K cd12 "_law_draw" = true) (k12 : PySem.W.keepIn K (.ref f12) = true)
    {f13 : Addr} {od13 an13 : Option Addr} {sl13 : Array (Option Value)} {oc13 kV13 dc13 pm13 cd13 ct13 : Value}
    (a13 : PySem.W.nsIn K mainGlobals "is_from_to" = some (some (.ref f13))) (l13 : K.lookup f13 = some ⟨oc13, od13, .func (PySem.W.fnOf "is_from_to" "is_from_to" (defArgs s_is_from_to) (defBody s_is_from_to) (defScope s_is_from_to) .none kV13 dc13 pm13 an13 cd13 ct13), sl13⟩) (c13 : PySem.W.codeIn K cd13 "is_from_to" = true) (k13 : PySem.W.keepIn K (.ref f13) = true)
    {f14 : Addr} {od14 an14 : Option Addr} {sl14 : Array (Option Value)} {oc14 kV14 dc14 pm14 cd14 ct14 : Value}
    (a14 : PySem.W.nsIn K mainGlobals "_common_rest" = some (some (.ref f14))) (l14 : K.lookup f14 = some ⟨oc14, od14, .func (PySem.W.fnOf "_common_rest" "_common_rest" (defArgs s_common_rest) (defBody s_common_rest) (defScope s_common_rest) .none kV14 dc14 pm14 an14 cd14 ct14), sl14⟩) (c14 : PySem.W.codeIn K cd14 "_common_rest" = true) (k14 : PySem.W.keepIn K (.ref f14) = true)
    {f15 : Addr} {od15 an15 : Option Addr} {sl15 : Array (Option Value)} {oc15 kV15 dc15 pm15 cd15 ct15 : Value}
    (a15 : PySem.W.nsIn K mainGlobals "_numbers_of_term" = some (some (.ref f15))) (l15 : K.lookup f15 = some ⟨oc15, od15, .func (PySem.W.fnOf "_numbers_of_term" "_numbers_of_term" (defArgs s_numbers_of_term) (defBody s_numbers_of_term) (defScope s_numbers_of_term) .none kV15 dc15 pm15 an15 cd15 ct15), sl15⟩) (c15 : PySem.W.codeIn K cd15 "_numbers_of_term" = true) (k15 : PySem.W.keepIn K (.ref f15) = true)
    {f16 : Addr} {od16 an16 : Option Addr} {sl16 : Array (Option Value)} {oc16 kV16 dc16 pm16 cd16 ct16 : Value}
    (a16 : PySem.W.nsIn K mainGlobals "check_row" = some (some (.ref f16))) (l16 : K.lookup f16 = some ⟨oc16, od16, .func (PySem.W.fnOf "check_row" "check_row" (defArgs s_check_row) (defBody s_check_row) (defScope s_check_row) .none kV16 dc16 pm16 an16 cd16 ct16), sl16⟩) (c16 : PySem.W.codeIn K cd16 "check_row" = true) (k16 : PySem.W.keepIn K (.ref f16) = true)
    {f17 : Addr} {od17 an17 : Option Addr} {sl17 : Array (Option Value)} {oc17 kV17 dc17 pm17 cd17 ct17 : Value}
    (a17 : PySem.W.nsIn K mainGlobals "check_counts" = some (some (.ref f17))) (l17 : K.lookup f17 = some ⟨oc17, od17, .func (PySem.W.fnOf "check_counts" "check_counts" (defArgs s_check_counts) (defBody s_check_counts) (defScope s_check_counts) .none kV17 dc17 pm17 an17 cd17 ct17), sl17⟩) (c17 : PySem.W.codeIn K cd17 "check_counts" = true) (k17 : PySem.W.keepIn K (.ref f17) = true)
    {f18 : Addr} {od18 an18 : Option Addr} {sl18 : Array (Option Value)} {oc18 kV18 dc18 pm18 cd18 ct18 : Value}
    (a18 : PySem.W.nsIn K mainGlobals "check_shuffle" = some (some (.ref f18))) (l18 : K.lookup f18 = some ⟨oc18, od18, .func (PySem.W.fnOf "check_shuffle" "check_shuffle" (defArgs s_check_shuffle) (defBody s_check_shuffle) (defScope s_check_shuffle) .none kV18 dc18 pm18 an18 cd18 ct18), sl18⟩) (c18 : PySem.W.codeIn K cd18 "check_shuffle" = true) (k18 : PySem.W.keepIn K (.ref f18) = true)
    {f19 : Addr} {od19 an19 : Option Addr} {sl19 : Array (Option Value)} {oc19 kV19 dc19 pm19 cd19 ct19 : Value}
    (a19 : PySem.W.nsIn K mainGlobals "check_many" = some (some (.ref f19))) (l19 : K.lookup f19 = some ⟨oc19, od19, .func (PySem.W.fnOf "check_many" "check_many" (defArgs s_check_many) (defBody s_check_many) (defScope s_check_many) .none kV19 dc19 pm19 an19 cd19 ct19), sl19⟩) (c19 : PySem.W.codeIn K cd19 "check_many" = true) (k19 : PySem.W.keepIn K (.ref f19) = true)
    {f20 : Addr} {od20 an20 : Option Addr} {sl20 : Array (Option Value)} {oc20 kV20 dc20 pm20 cd20 ct20 : Value}
    (a20 : PySem.W.nsIn K mainGlobals "is_term" = some (some (.ref f20))) (l20 : K.lookup f20 = some ⟨oc20, od20, .func (PySem.W.fnOf "is_term" "is_term" (defArgs s_is_term) (defBody s_is_term) (defScope s_is_term) .none kV20 dc20 pm20 an20 cd20 ct20), sl20⟩) (c20 : PySem.W.codeIn K cd20 "is_term" = true) (k20 : PySem.W.keepIn K (.ref f20) = true)
    {f21 : Addr} {od21 an21 : Option Addr} {sl21 : Array (Option Value)} {oc21 kV21 dc21 pm21 cd21 ct21 : Value}
    (a21 : PySem.W.findIn K (.ref C_Live) "_may_come" = some (some (.ref f21))) (i21 : PySem.W.isFn K (.ref f21) = true)
    (l21 : K.lookup f21 = some ⟨oc21, od21, .func (PySem.W.fnOf "_may_come" "Live._may_come" (defArgs s_Live_may_come) (defBody s_Live_may_come) (defScope s_Live_may_come) .none kV21 dc21 pm21 an21 cd21 ct21), sl21⟩) (c21 : PySem.W.codeIn K cd21 "Live._may_come" = true) (k21 : PySem.W.keepIn K (.ref f21) = true)
    {f22 : Addr} {od22 an22 : Option Addr} {sl22 : Array (Option Value)} {oc22 kV22 dc22 pm22 cd22 ct22 : Value}
    (a22 : PySem.W.nsIn K mainGlobals "_check_hole" = some (some (.ref f22))) (l22 : K.lookup f22 = some ⟨oc22, od22, .func (PySem.W.fnOf "_check_hole" "_check_hole" (defArgs s_check_hole) (defBody s_check_hole) (defScope s_check_hole) .none kV22 dc22 pm22 an22 cd22 ct22), sl22⟩) (c22 : PySem.W.codeIn K cd22 "_check_hole" = true) (k22 : PySem.W.keepIn K (.ref f22) = true)
    {f23 : Addr} {od23 an23 : Option Addr} {sl23 : Array (Option Value)} {oc23 kV23 dc23 pm23 cd23 ct23 : Value}
    (a23 : PySem.W.nsIn K mainGlobals "_numbers" = some (some (.ref f23))) (l23 : K.lookup f23 = some ⟨oc23, od23, .func (PySem.W.fnOf "_numbers" "_numbers" (defArgs s_numbers) (defBody s_numbers) (defScope s_numbers) .none kV23 dc23 pm23 an23 cd23 ct23), sl23⟩) (c23 : PySem.W.codeIn K cd23 "_numbers" = true) (k23 : PySem.W.keepIn K (.ref f23) = true)
    {f24 : Addr} {od24 an24 : Option Addr} {sl24 : Array (Option Value)} {oc24 kV24 dc24 pm24 cd24 ct24 : Value}
    (a24 : PySem.W.nsIn K mainGlobals "_rings_in" = some (some (.ref f24))) (l24 : K.lookup f24 = some ⟨oc24, od24, .func (PySem.W.fnOf "_rings_in" "_rings_in" (defArgs s_rings_in) (defBody s_rings_in) (defScope s_rings_in) .none kV24 dc24 pm24 an24 cd24 ct24), sl24⟩) (c24 : PySem.W.codeIn K cd24 "_rings_in" = true) (k24 : PySem.W.keepIn K (.ref f24) = true)
    {f25 : Addr} {od25 an25 : Option Addr} {sl25 : Array (Option Value)} {oc25 kV25 dc25 pm25 cd25 ct25 : Value}
    (a25 : PySem.W.nsIn K mainGlobals "_law_well" = some (some (.ref f25))) (l25 : K.lookup f25 = some ⟨oc25, od25, .func (PySem.W.fnOf "_law_well" "_law_well" (defArgs s_law_well) (defBody s_law_well) (defScope s_law_well) .none kV25 dc25 pm25 an25 cd25 ct25), sl25⟩) (c25 : PySem.W.codeIn K cd25 "_law_well" = true) (k25 : PySem.W.keepIn K (.ref f25) = true)
    {f26 : Addr} {od26 an26 : Option Addr} {sl26 : Array (Option Value)} {oc26 kV26 dc26 pm26 cd26 ct26 : Value}
    (a26 : PySem.W.nsIn K mainGlobals "check_rule" = some (some (.ref f26))) (l26 : K.lookup f26 = some ⟨oc26, od26, .func (PySem.W.fnOf "check_rule" "check_rule" (defArgs s_check_rule) (defBody s_check_rule) (defScope s_check_rule) .none kV26 dc26 pm26 an26 cd26 ct26), sl26⟩) (c26 : PySem.W.codeIn K cd26 "check_rule" = true) (k26 : PySem.W.keepIn K (.ref f26) = true)
    {f27 : Addr} {od27 an27 : Option Addr} {sl27 : Array (Option Value)} {oc27 kV27 dc27 pm27 cd27 ct27 : Value}
    (a27 : PySem.W.findIn K (.ref C_Live) "lay" = some (some (.ref f27))) (i27 : PySem.W.isFn K (.ref f27) = true)
    (l27 : K.lookup f27 = some ⟨oc27, od27, .func (PySem.W.fnOf "lay" "Live.lay" (defArgs s_Live_lay) (defBody s_Live_lay) (defScope s_Live_lay) .none kV27 dc27 pm27 an27 cd27 ct27), sl27⟩) (c27 : PySem.W.codeIn K cd27 "Live.lay" = true) (k27 : PySem.W.keepIn K (.ref f27) = true)
    {f28 : Addr} {od28 an28 : Option Addr} {sl28 : Array (Option Value)} {oc28 kV28 dc28 pm28 cd28 ct28 : Value}
    (a28 : PySem.W.findIn K (.ref C_Live) "undo" = some (some (.ref f28))) (i28 : PySem.W.isFn K (.ref f28) = true)
    (l28 : K.lookup f28 = some ⟨oc28, od28, .func (PySem.W.fnOf "undo" "Live.undo" (defArgs s_Live_undo) (defBody s_Live_undo) (defScope s_Live_undo) .none kV28 dc28 pm28 an28 cd28 ct28), sl28⟩) (c28 : PySem.W.codeIn K cd28 "Live.undo" = true) (k28 : PySem.W.keepIn K (.ref f28) = true)
    {f29 : Addr} {od29 an29 : Option Addr} {sl29 : Array (Option Value)} {oc29 kV29 dc29 pm29 cd29 ct29 : Value}
    (a29 : PySem.W.nsIn K mainGlobals "new_numbers" = some (some (.ref f29))) (l29 : K.lookup f29 = some ⟨oc29, od29, .func (PySem.W.fnOf "new_numbers" "new_numbers" (defArgs s_new_numbers) (defBody s_new_numbers) (defScope s_new_numbers) .none kV29 dc29 pm29 an29 cd29 ct29), sl29⟩) (c29 : PySem.W.codeIn K cd29 "new_numbers" = true) (k29 : PySem.W.keepIn K (.ref f29) = true)
    {f30 : Addr} {od30 an30 : Option Addr} {sl30 : Array (Option Value)} {oc30 kV30 dc30 pm30 cd30 ct30 : Value}
    (a30 : PySem.W.nsIn K mainGlobals "lengths" = some (some (.ref f30))) (l30 : K.lookup f30 = some ⟨oc30, od30, .func (PySem.W.fnOf "lengths" "lengths" (defArgs s_lengths) (defBody s_lengths) (defScope s_lengths) .none kV30 dc30 pm30 an30 cd30 ct30), sl30⟩) (c30 : PySem.W.codeIn K cd30 "lengths" = true) (k30 : PySem.W.keepIn K (.ref f30) = true)
    {f31 : Addr} {od31 an31 : Option Addr} {sl31 : Array (Option Value)} {oc31 kV31 dc31 pm31 cd31 ct31 : Value}
    (a31 : PySem.W.nsIn K mainGlobals "shuffle_of" = some (some (.ref f31))) (l31 : K.lookup f31 = some ⟨oc31, od31, .func (PySem.W.fnOf "shuffle_of" "shuffle_of" (defArgs s_shuffle_of) (defBody s_shuffle_of) (defScope s_shuffle_of) .none kV31 dc31 pm31 an31 cd31 ct31), sl31⟩) (c31 : PySem.W.codeIn K cd31 "shuffle_of" = true) (k31 : PySem.W.keepIn K (.ref f31) = true)
    {f32 : Addr} {od32 an32 : Option Addr} {sl32 : Array (Option Value)} {oc32 kV32 dc32 pm32 cd32 ct32 : Value}
    (a32 : PySem.W.findIn K (.ref C_Live) "tell" = some (some (.ref f32))) (i32 : PySem.W.isFn K (.ref f32) = true)
    (l32 : K.lookup f32 = some ⟨oc32, od32, .func (PySem.W.fnOf "tell" "Live.tell" (defArgs s_Live_tell) (defBody s_Live_tell) (defScope s_Live_tell) .none kV32 dc32 pm32 an32 cd32 ct32), sl32⟩) (c32 : PySem.W.codeIn K cd32 "Live.tell" = true) (k32 : PySem.W.keepIn K (.ref f32) = true)
    {f33 : Addr} {od33 an33 : Option Addr} {sl33 : Array (Option Value)} {oc33 kV33 dc33 pm33 cd33 ct33 : Value}
    (a33 : PySem.W.findIn K (.ref C_Live) "__contains__" = some (some (.ref f33))) (i33 : PySem.W.isFn K (.ref f33) = true)
    (l33 : K.lookup f33 = some ⟨oc33, od33, .func (PySem.W.fnOf "__contains__" "Live.__contains__" (defArgs s_Live_contains) (defBody s_Live_contains) (defScope s_Live_contains) .none kV33 dc33 pm33 an33 cd33 ct33), sl33⟩) (c33 : PySem.W.codeIn K cd33 "Live.__contains__" = true) (k33 : PySem.W.keepIn K (.ref f33) = true)
    {f34 : Addr} {od34 an34 : Option Addr} {sl34 : Array (Option Value)} {oc34 kV34 dc34 pm34 cd34 ct34 : Value}
    (a34 : PySem.W.nsIn K mainGlobals "first_bar" = some (some (.ref f34))) (l34 : K.lookup f34 = some ⟨oc34, od34, .func (PySem.W.fnOf "first_bar" "first_bar" (defArgs s_first_bar) (defBody s_first_bar) (defScope s_first_bar) .none kV34 dc34 pm34 an34 cd34 ct34), sl34⟩) (c34 : PySem.W.codeIn K cd34 "first_bar" = true) (k34 : PySem.W.keepIn K (.ref f34) = true)
    {f35 : Addr} {od35 an35 : Option Addr} {sl35 : Array (Option Value)} {oc35 kV35 dc35 pm35 cd35 ct35 : Value}
    (a35 : PySem.W.nsIn K mainGlobals "hole" = some (some (.ref f35))) (l35 : K.lookup f35 = some ⟨oc35, od35, .func (PySem.W.fnOf "hole" "hole" (defArgs s_hole) (defBody s_hole) (defScope s_hole) .none kV35 dc35 pm35 an35 cd35 ct35), sl35⟩) (c35 : PySem.W.codeIn K cd35 "hole" = true) (k35 : PySem.W.keepIn K (.ref f35) = true)
    {f36 : Addr} {od36 an36 : Option Addr} {sl36 : Array (Option Value)} {oc36 kV36 dc36 pm36 cd36 ct36 : Value}
    (a36 : PySem.W.nsIn K mainGlobals "told" = some (some (.ref f36))) (l36 : K.lookup f36 = some ⟨oc36, od36, .func (PySem.W.fnOf "told" "told" (defArgs s_told) (defBody s_told) (defScope s_told) .none kV36 dc36 pm36 an36 cd36 ct36), sl36⟩) (c36 : PySem.W.codeIn K cd36 "told" = true) (k36 : PySem.W.keepIn K (.ref f36) = true)
    {f37 : Addr} {od37 an37 : Option Addr} {sl37 : Array (Option Value)} {oc37 kV37 dc37 pm37 cd37 ct37 : Value}
    (a37 : PySem.W.nsIn K mainGlobals "back_row" = some (some (.ref f37))) (l37 : K.lookup f37 = some ⟨oc37, od37, .func (PySem.W.fnOf "back_row" "back_row" (defArgs s_back_row) (defBody s_back_row) (defScope s_back_row) .none kV37 dc37 pm37 an37 cd37 ct37), sl37⟩) (c37 : PySem.W.codeIn K cd37 "back_row" = true) (k37 : PySem.W.keepIn K (.ref f37) = true)
    {f38 : Addr} {od38 an38 : Option Addr} {sl38 : Array (Option Value)} {oc38 kV38 dc38 pm38 cd38 ct38 : Value}
    (a38 : PySem.W.nsIn K mainGlobals "rings" = some (some (.ref f38))) (l38 : K.lookup f38 = some ⟨oc38, od38, .func (PySem.W.fnOf "rings" "rings" (defArgs s_rings) (defBody s_rings) (defScope s_rings) .none kV38 dc38 pm38 an38 cd38 ct38), sl38⟩) (c38 : PySem.W.codeIn K cd38 "rings" = true) (k38 : PySem.W.keepIn K (.ref f38) = true)
    {f39 : Addr} {od39 an39 : Option Addr} {sl39 : Array (Option Value)} {oc39 kV39 dc39 pm39 cd39 ct39 : Value}
    (a39 : PySem.W.nsIn K mainGlobals "_law_shuffle_right" = some (some (.ref f39))) (l39 : K.lookup f39 = some ⟨oc39, od39, .func (PySem.W.fnOf "_law_shuffle_right" "_law_shuffle_right" (defArgs s_law_shuffle_right) (defBody s_law_shuffle_right) (defScope s_law_shuffle_right) .none kV39 dc39 pm39 an39 cd39 ct39), sl39⟩) (c39 : PySem.W.codeIn K cd39 "_law_shuffle_right" = true) (k39 : PySem.W.keepIn K (.ref f39) = true)
    {f40 : Addr} {od40 an40 : Option Addr} {sl40 : Array (Option Value)} {oc40 kV40 dc40 pm40 cd40 ct40 : Value}
    (a40 : PySem.W.nsIn K mainGlobals "_law_barred_at" = some (some (.ref f40))) (l40 : K.lookup f40 = some ⟨oc40, od40, .func (PySem.W.fnOf "_law_barred_at" "_law_barred_at" (defArgs s_law_barred_at) (defBody s_law_barred_at) (defScope s_law_barred_at) .none kV40 dc40 pm40 an40 cd40 ct40), sl40⟩) (c40 : PySem.W.codeIn K cd40 "_law_barred_at" = true) (k40 : PySem.W.keepIn K (.ref f40) = true)
    {f41 : Addr} {od41 an41 : Option Addr} {sl41 : Array (Option Value)} {oc41 kV41 dc41 pm41 cd41 ct41 : Value}
    (a41 : PySem.W.nsIn K mainGlobals "_law_great_right" = some (some (.ref f41))) (l41 : K.lookup f41 = some ⟨oc41, od41, .func (PySem.W.fnOf "_law_great_right" "_law_great_right" (defArgs s_law_great_right) (defBody s_law_great_right) (defScope s_law_great_right) .none kV41 dc41 pm41 an41 cd41 ct41), sl41⟩) (c41 : PySem.W.codeIn K cd41 "_law_great_right" = true) (k41 : PySem.W.keepIn K (.ref f41) = true)
    {f42 : Addr} {od42 an42 : Option Addr} {sl42 : Array (Option Value)} {oc42 kV42 dc42 pm42 cd42 ct42 : Value}
    (a42 : PySem.W.nsIn K mainGlobals "_law_next_right" = some (some (.ref f42))) (l42 : K.lookup f42 = some ⟨oc42, od42, .func (PySem.W.fnOf "_law_next_right" "_law_next_right" (defArgs s_law_next_right) (defBody s_law_next_right) (defScope s_law_next_right) .none kV42 dc42 pm42 an42 cd42 ct42), sl42⟩) (c42 : PySem.W.codeIn K cd42 "_law_next_right" = true) (k42 : PySem.W.keepIn K (.ref f42) = true)
    {f43 : Addr} {od43 an43 : Option Addr} {sl43 : Array (Option Value)} {oc43 kV43 dc43 pm43 cd43 ct43 : Value}
    (a43 : PySem.W.nsIn K mainGlobals "_law_right" = some (some (.ref f43))) (l43 : K.lookup f43 = some ⟨oc43, od43, .func (PySem.W.fnOf "_law_right" "_law_right" (defArgs s_law_right) (defBody s_law_right) (defScope s_law_right) .none kV43 dc43 pm43 an43 cd43 ct43), sl43⟩) (c43 : PySem.W.codeIn K cd43 "_law_right" = true) (k43 : PySem.W.keepIn K (.ref f43) = true)
    {f44 : Addr} {od44 an44 : Option Addr} {sl44 : Array (Option Value)} {oc44 kV44 dc44 pm44 cd44 ct44 : Value}
    (a44 : PySem.W.nsIn K mainGlobals "law" = some (some (.ref f44))) (l44 : K.lookup f44 = some ⟨oc44, od44, .func (PySem.W.fnOf "law" "law" (defArgs s_law) (defBody s_law) (defScope s_law) .none kV44 dc44 pm44 an44 cd44 ct44), sl44⟩) (c44 : PySem.W.codeIn K cd44 "law" = true) (k44 : PySem.W.keepIn K (.ref f44) = true)
    {t_MOST_COUNT : Tok} (m_MOST_COUNT : PySem.W.nsIn K mainGlobals "MOST_COUNT" = some (some (.int (1000000) t_MOST_COUNT)))
    {t_MOST_NUMBERS : Tok} (m_MOST_NUMBERS : PySem.W.nsIn K mainGlobals "MOST_NUMBERS" = some (some (.int (300) t_MOST_NUMBERS)))
    {t_MOST_TERMS : Tok} (m_MOST_TERMS : PySem.W.nsIn K mainGlobals "MOST_TERMS" = some (some (.int (12) t_MOST_TERMS)))
    {t_MOST_THINGS : Tok} (m_MOST_THINGS : PySem.W.nsIn K mainGlobals "MOST_THINGS" = some (some (.int (300) t_MOST_THINGS)))
    {u_KINDS : Addr} {v_KINDS : Option Addr} {w_KINDS : Nat} {x_KINDS : Array (Option Value)} 
    {u_KINDS_0 : Addr} {v_KINDS_0 : Option Addr} {w_KINDS_0 : Nat} {x_KINDS_0 : Array (Option Value)}  {tk_KINDS_0_0 : Tok} {tk_KINDS_0_1 : Tok} {tk_KINDS_0_2 : Tok}
    {u_KINDS_1 : Addr} {v_KINDS_1 : Option Addr} {w_KINDS_1 : Nat} {x_KINDS_1 : Array (Option Value)}  {tk_KINDS_1_0 : Tok} {tk_KINDS_1_1 : Tok} {tk_KINDS_1_2 : Tok}
    {u_KINDS_2 : Addr} {v_KINDS_2 : Option Addr} {w_KINDS_2 : Nat} {x_KINDS_2 : Array (Option Value)}  {tk_KINDS_2_0 : Tok} {tk_KINDS_2_1 : Tok} {tk_KINDS_2_2 : Tok}
    (zt_KINDS : PySem.W.nsIn K mainGlobals "KINDS" = some (some (.ref u_KINDS)))
    (yt_KINDS : K.lookup u_KINDS = some ⟨.type "tuple", v_KINDS, .seq #[.ref u_KINDS_0, .ref u_KINDS_1, .ref u_KINDS_2] w_KINDS, x_KINDS⟩)
    (yt_KINDS_0 : K.lookup u_KINDS_0 = some ⟨.type "tuple", v_KINDS_0, .seq #[.str "power" tk_KINDS_0_0, .int (-40) tk_KINDS_0_1, .int (40) tk_KINDS_0_2] w_KINDS_0, x_KINDS_0⟩)
    (yt_KINDS_1 : K.lookup u_KINDS_1 = some ⟨.type "tuple", v_KINDS_1, .seq #[.str "ring" tk_KINDS_1_0, .int (1) tk_KINDS_1_1, .int (300) tk_KINDS_1_2] w_KINDS_1, x_KINDS_1⟩)
    (yt_KINDS_2 : K.lookup u_KINDS_2 = some ⟨.type "tuple", v_KINDS_2, .seq #[.str "places" tk_KINDS_2_0, .int (1) tk_KINDS_2_1, .int (6) tk_KINDS_2_2] w_KINDS_2, x_KINDS_2⟩)
    (z_abs : PySem.W.nsIn K mainGlobals "abs" = some none)
    (z_all : PySem.W.nsIn K mainGlobals "all" = some none)
    (z_any : PySem.W.nsIn K mainGlobals "any" = some none)
    (z_bool : PySem.W.nsIn K mainGlobals "bool" = some none)
    (z_enumerate : PySem.W.nsIn K mainGlobals "enumerate" = some none)
    (z_int : PySem.W.nsIn K mainGlobals "int" = some none)
    (z_isinstance : PySem.W.nsIn K mainGlobals "isinstance" = some none)
    (z_len : PySem.W.nsIn K mainGlobals "len" = some none)
    (z_list : PySem.W.nsIn K mainGlobals "list" = some none)
    (z_max : PySem.W.nsIn K mainGlobals "max" = some none)
    (z_min : PySem.W.nsIn K mainGlobals "min" = some none)
    (z_range : PySem.W.nsIn K mainGlobals "range" = some none)
    (z_sorted : PySem.W.nsIn K mainGlobals "sorted" = some none)
    (z_str : PySem.W.nsIn K mainGlobals "str" = some none)
    (z_sum : PySem.W.nsIn K mainGlobals "sum" = some none)
    (z_tuple : PySem.W.nsIn K mainGlobals "tuple" = some none)
    (z_zip : PySem.W.nsIn K mainGlobals "zip" = some none)
    (i_lcm : PySem.W.nsIn K mainGlobals "lcm" = some (some (.builtin "math.lcm")))
    {a_Barred : Addr} (ea_Barred : PySem.W.nsIn K mainGlobals "Barred" = some (some (.ref a_Barred)))
    (ek_Barred : PySem.W.keepIn K (.ref a_Barred) = true)
    (et_Barred : PySem.W.typeIn K (.ref a_Barred) = some (.type "type"))
    (es_Barred : PySem.W.subIn K (.ref a_Barred) (.ref a_Barred) = some true)
    (ev_Barred : PySem.W.subIn K (.ref a_Barred) (.type "ValueError") = some true)
    (e1_Barred : PySem.W.findIn K (.ref a_Barred) "__getattribute__" = some (some (.builtin "BaseException.__getattribute__")))
    (e2_Barred : PySem.W.findIn K (.ref a_Barred) "__getattr__" = some none)
    (e3_Barred : PySem.W.subIn K (.ref a_Barred) (.type "BaseException") = some true)
    (e4_Barred : PySem.W.hasDictIn K a_Barred = true)
    (e5_Barred : PySem.W.findIn K (.ref a_Barred) "__class__" = some (some (.builtin "object.__class__")))
    (e8_Barred : PySem.W.mroIn K a_Barred (.type "object") = some true)
    {a_NoCount : Addr} (ea_NoCount : PySem.W.nsIn K mainGlobals "NoCount" = some (some (.ref a_NoCount)))
    (ek_NoCount : PySem.W.keepIn K (.ref a_NoCount) = true)
    (et_NoCount : PySem.W.typeIn K (.ref a_NoCount) = some (.type "type"))
    (es_NoCount : PySem.W.subIn K (.ref a_NoCount) (.ref a_NoCount) = some true)
    (ev_NoCount : PySem.W.subIn K (.ref a_NoCount) (.type "ValueError") = some true)
    (e1_NoCount : PySem.W.findIn K (.ref a_NoCount) "__getattribute__" = some (some (.builtin "BaseException.__getattribute__")))
    (e2_NoCount : PySem.W.findIn K (.ref a_NoCount) "__getattr__" = some none)
    (e3_NoCount : PySem.W.subIn K (.ref a_NoCount) (.type "BaseException") = some true)
    (e4_NoCount : PySem.W.hasDictIn K a_NoCount = true)
    (e5_NoCount : PySem.W.findIn K (.ref a_NoCount) "__class__" = some (some (.builtin "object.__class__")))
    (e8_NoCount : PySem.W.mroIn K a_NoCount (.type "object") = some true)
    (x_NoCount : PySem.W.excIn K a_NoCount [.type "ValueError", .type "Exception", .type "BaseException", .type "object"] "ValueError.__new__" = true)
    {a_NoNumber : Addr} (ea_NoNumber : PySem.W.nsIn K mainGlobals "NoNumber" = some (some (.ref a_NoNumber)))
    (ek_NoNumber : PySem.W.keepIn K (.ref a_NoNumber) = true)
    (et_NoNumber : PySem.W.typeIn K (.ref a_NoNumber) = some (.type "type"))
    (es_NoNumber : PySem.W.subIn K (.ref a_NoNumber) (.ref a_NoNumber) = some true)
    (ev_NoNumber : PySem.W.subIn K (.ref a_NoNumber) (.type "ValueError") = some true)
    (e1_NoNumber : PySem.W.findIn K (.ref a_NoNumber) "__getattribute__" = some (some (.builtin "BaseException.__getattribute__")))
    (e2_NoNumber : PySem.W.findIn K (.ref a_NoNumber) "__getattr__" = some none)
    (e3_NoNumber : PySem.W.subIn K (.ref a_NoNumber) (.type "BaseException") = some true)
    (e4_NoNumber : PySem.W.hasDictIn K a_NoNumber = true)
    (e5_NoNumber : PySem.W.findIn K (.ref a_NoNumber) "__class__" = some (some (.builtin "object.__class__")))
    (e8_NoNumber : PySem.W.mroIn K a_NoNumber (.type "object") = some true)
    (x_NoNumber : PySem.W.excIn K a_NoNumber [.type "ValueError", .type "Exception", .type "BaseException", .type "object"] "ValueError.__new__" = true)
    {a_NothingToUndo : Addr} (ea_NothingToUndo : PySem.W.nsIn K mainGlobals "NothingToUndo" = some (some (.ref a_NothingToUndo)))
    (ek_NothingToUndo : PySem.W.keepIn K (.ref a_NothingToUndo) = true)
    (et_NothingToUndo : PySem.W.typeIn K (.ref a_NothingToUndo) = some (.type "type"))
    (es_NothingToUndo : PySem.W.subIn K (.ref a_NothingToUndo) (.ref a_NothingToUndo) = some true)
    (ev_NothingToUndo : PySem.W.subIn K (.ref a_NothingToUndo) (.type "ValueError") = some true)
    (e1_NothingToUndo : PySem.W.findIn K (.ref a_NothingToUndo) "__getattribute__" = some (some (.builtin "BaseException.__getattribute__")))
    (e2_NothingToUndo : PySem.W.findIn K (.ref a_NothingToUndo) "__getattr__" = some none)
    (e3_NothingToUndo : PySem.W.subIn K (.ref a_NothingToUndo) (.type "BaseException") = some true)
    (e4_NothingToUndo : PySem.W.hasDictIn K a_NothingToUndo = true)
    (e5_NothingToUndo : PySem.W.findIn K (.ref a_NothingToUndo) "__class__" = some (some (.builtin "object.__class__")))
    (e8_NothingToUndo : PySem.W.mroIn K a_NothingToUndo (.type "object") = some true)
    (x_NothingToUndo : PySem.W.excIn K a_NothingToUndo [.type "ValueError", .type "Exception", .type "BaseException", .type "object"] "ValueError.__new__" = true)
    {a_RowError : Addr} (ea_RowError : PySem.W.nsIn K mainGlobals "RowError" = some (some (.ref a_RowError)))
    (ek_RowError : PySem.W.keepIn K (.ref a_RowError) = true)
    (et_RowError : PySem.W.typeIn K (.ref a_RowError) = some (.type "type"))
    (es_RowError : PySem.W.subIn K (.ref a_RowError) (.ref a_RowError) = some true)
    (ev_RowError : PySem.W.subIn K (.ref a_RowError) (.type "ValueError") = some true)
    (e1_RowError : PySem.W.findIn K (.ref a_RowError) "__getattribute__" = some (some (.builtin "BaseException.__getattribute__")))
    (e2_RowError : PySem.W.findIn K (.ref a_RowError) "__getattr__" = some none)
    (e3_RowError : PySem.W.subIn K (.ref a_RowError) (.type "BaseException") = some true)
    (e4_RowError : PySem.W.hasDictIn K a_RowError = true)
    (e5_RowError : PySem.W.findIn K (.ref a_RowError) "__class__" = some (some (.builtin "object.__class__")))
    (e8_RowError : PySem.W.mroIn K a_RowError (.type "object") = some true)
    (e6 : PySem.W.specialIn K (.builtin "object.__class__") "__get__" = some (some (.builtin "getset_descriptor.__get__"))) (e7 : PySem.W.takesIn K (.builtin "object.__class__") = some true)
    (no : PySem.W.nsIn K cStatics "thirdparty.any" = some none) (gS : PySem.W.nsIn K mainGlobals "super" = some none)
    {nm_Barred q_Barred : Str} {N_Barred : Addr} {bs_Barred bm_Barred : List Value} {sn_Barred : List Str} {sub_Barred : List Value} {ab_Barred : Bool} {col_Barred : Option Bool} {dd_Barred : Option Addr} {k0_Barred k1_Barred k2_Barred k3_Barred k5_Barred : Option Value} {fi_Barred cda_Barred cc_Barred : Addr}
    {qual_Barred : Str} {oc_Barred kV_Barred doc_Barred pm_Barred ct_Barred : Value} {od_Barred an_Barred : Option Addr} {osl_Barred csl_Barred ccs_Barred : Array (Option Value)} {cl_Barred ccl_Barred : Value} {cld_Barred cdd_Barred : Option Addr} {vs_Barred : Array Value} {file_Barred : Str} {tf_Barred : Tok}
    (lk_Barred : K.lookup a_Barred = some (excClassObj nm_Barred q_Barred a_Barred N_Barred bs_Barred bm_Barred true sn_Barred sub_Barred ab_Barred col_Barred dd_Barred k0_Barred k1_Barred k2_Barred k3_Barred k5_Barred "ValueError.__new__"))
    (rv_Barred : PySem.HandSPX.refsVE bm_Barred = true)
    (sa_Barred : PySem.W.findIn K (.ref a_Barred) "__setattr__" = some (some (.builtin "object.__setattr__")))
    (iC_Barred : PySem.W.findIn K (.ref a_Barred) "__init__" = some (some (.ref fi_Barred)))
    (tI_Barred : PySem.W.typeIn K (.ref fi_Barred) = some (.type "function"))
    (nf_Barred : PySem.W.findIn K (.ref a_Barred) "n" = some none)
    (up_Barred : PySem.W.ks_superIn K a_Barred a_Barred "__init__" = some (some (.builtin "ValueError.__init__")))
    (sC_Barred : PySem.W.mroIn K a_Barred (.ref a_Barred) = some true)
    (lI_Barred : K.lookup fi_Barred = some ⟨oc_Barred, od_Barred, .func (PySem.W.fnX "__init__" qual_Barred (defArgs c_Barred) (defBody c_Barred) (defScope c_Barred) [("__class__", cc_Barred)] .none kV_Barred doc_Barred pm_Barred an_Barred (.ref cda_Barred) ct_Barred), osl_Barred⟩)
    (cI_Barred : PySem.W.codeIn K (.ref cda_Barred) qual_Barred = true)
    (lC_Barred : K.lookup cc_Barred = some ⟨cl_Barred, cld_Barred, .cell (some (.ref a_Barred)), csl_Barred⟩)
    (lD_Barred : K.lookup cda_Barred = some ⟨ccl_Barred, cdd_Barred, .fields vs_Barred, ccs_Barred⟩)
    (hv_Barred : vs_Barred[2]? = some (.str file_Barred tf_Barred))
    (hf_Barred : ((PP.main.file : Str) == file_Barred) = true)
    (m_Barred_NoCount : PySem.W.subIn K (.ref a_Barred) (.ref a_NoCount) = some false)
    (m_Barred_NoNumber : PySem.W.subIn K (.ref a_Barred) (.ref a_NoNumber) = some false)
    (m_Barred_NothingToUndo : PySem.W.subIn K (.ref a_Barred) (.ref a_NothingToUndo) = some false)
    (m_Barred_RowError : PySem.W.subIn K (.ref a_Barred) (.ref a_RowError) = some true)
    (m_NoCount_Barred : PySem.W.subIn K (.ref a_NoCount) (.ref a_Barred) = some false)
    (m_NoCount_NoNumber : PySem.W.subIn K (.ref a_NoCount) (.ref a_NoNumber) = some false)
    (m_NoCount_NothingToUndo : PySem.W.subIn K (.ref a_NoCount) (.ref a_NothingToUndo) = some false)
    (m_NoCount_RowError : PySem.W.subIn K (.ref a_NoCount) (.ref a_RowError) = some true)
    (m_NoNumber_Barred : PySem.W.subIn K (.ref a_NoNumber) (.ref a_Barred) = some false)
    (m_NoNumber_NoCount : PySem.W.subIn K (.ref a_NoNumber) (.ref a_NoCount) = some false)
    (m_NoNumber_NothingToUndo : PySem.W.subIn K (.ref a_NoNumber) (.ref a_NothingToUndo) = some false)
    (m_NoNumber_RowError : PySem.W.subIn K (.ref a_NoNumber) (.ref a_RowError) = some true)
    (m_NothingToUndo_Barred : PySem.W.subIn K (.ref a_NothingToUndo) (.ref a_Barred) = some false)
    (m_NothingToUndo_NoCount : PySem.W.subIn K (.ref a_NothingToUndo) (.ref a_NoCount) = some false)
    (m_NothingToUndo_NoNumber : PySem.W.subIn K (.ref a_NothingToUndo) (.ref a_NoNumber) = some false)
    (m_NothingToUndo_RowError : PySem.W.subIn K (.ref a_NothingToUndo) (.ref a_RowError) = some true)
    : ∃ fd : FuncData, (∀ (s : Shared) (v : Value), BindsTo s fd ⟨[v], []⟩ [("script", v)]) ∧ ∀ base : Heap, K.In base → base.Ns mainGlobals mg → FnG PySem.Challenge.rw_backafter_k76_whole_live_rows_beside_fun.prog w K mg base CX0 10 fa fd ["script"] (sp_law K) := by
  have e := hfa.symm.trans (PySem.W.mg_of X G a44)
  cases e
  let T : Txt K mg := {
    a_Live := C_Live
    cl_Live := ⟨pg_Live, hd_Live, po_Live, sa_Live⟩
    g_Live := PySem.W.mg_of X G aC_Live
    n_Live_counts := na_Live_counts
    n_Live_numbers := na_Live_numbers
    a_is_whole := _
    d_is_whole := _
    F_is_whole := fun_mk (st := s_is_whole) l0 c0 k0
    g_is_whole := PySem.W.mg_of X G a0
    a_Live_init := _
    d_Live_init := _
    F_Live_init := fun_mk (st := s_Live_init) l1 c1 k1
    m_Live_init := ⟨a1, i1, k1⟩
    k_Live := ⟨mk_Live, a1, i1, kc_Live⟩
    a_Live_coming := _
    d_Live_coming := _
    F_Live_coming := fun_mk (st := s_Live_coming) l2 c2 k2
    m_Live_coming := ⟨a2, i2, k2⟩
    a_Live_row := _
    d_Live_row := _
    F_Live_row := fun_mk (st := s_Live_row) l3 c3 k3
    m_Live_row := ⟨a3, i3, k3⟩
    a_Live_rings := _
    d_Live_rings := _
    F_Live_rings := fun_mk (st := s_Live_rings) l4 c4 k4
    m_Live_rings := ⟨a4, i4, k4⟩
    a_Live_len := _
    d_Live_len := _
    F_Live_len := fun_mk (st := s_Live_len) l5 c5 k5
    m_Live_len := ⟨a5, i5, k5⟩
    a_Live_things := _
    d_Live_things := _
    F_Live_things := fun_mk (st := s_Live_things) l6 c6 k6
    pa_Live_things := pp6
    p_Live_things := ⟨a6, pq6, pt6, _, pr6⟩
    a_Live_put := _
    d_Live_put := _
    F_Live_put := fun_mk (st := s_Live_put) l7 c7 k7
    m_Live_put := ⟨a7, i7, k7⟩
    a_to_power := _
    d_to_power := _
    F_to_power := fun_mk (st := s_to_power) l8 c8 k8
    g_to_power := PySem.W.mg_of X G a8
    a_first_with_rest := _
    d_first_with_rest := _
    F_first_with_rest := fun_mk (st := s_first_with_rest) l9 c9 k9
    g_first_with_rest := PySem.W.mg_of X G a9
    a_powers := _
    d_powers := _
    F_powers := fun_mk (st := s_powers) l10 c10 k10
    g_powers := PySem.W.mg_of X G a10
    a_check_things := _
    d_check_things := _
    F_check_things := fun_mk (st := s_check_things) l11 c11 k11
    g_check_things := PySem.W.mg_of X G a11
    a_law_draw := _
    d_law_draw := _
    F_law_draw := fun_mk (st := s_law_draw) l12 c12 k12
    g_law_draw := PySem.W.mg_of X G a12
    a_is_from_to := _
    d_is_from_to := _
    F_is_from_to := fun_mk (st := s_is_from_to) l13 c13 k13
    g_is_from_to := PySem.W.mg_of X G a13
    a_common_rest := _
    d_common_rest := _
    F_common_rest := fun_mk (st := s_common_rest) l14 c14 k14
    g_common_rest := PySem.W.mg_of X G a14
    a_numbers_of_term := _
    d_numbers_of_term := _
    F_numbers_of_term := fun_mk (st := s_numbers_of_term) l15 c15 k15
    g_numbers_of_term := PySem.W.mg_of X G a15
    a_check_row := _
    d_check_row := _
    F_check_row := fun_mk (st := s_check_row) l16 c16 k16
    g_check_row := PySem.W.mg_of X G a16
    a_check_counts := _
    d_check_counts := _
    F_check_counts := fun_mk (st := s_check_counts) l17 c17 k17
    g_check_counts := PySem.W.mg_of X G a17
    a_check_shuffle := _
    d_check_shuffle := _
    F_check_shuffle := fun_mk (st := s_check_shuffle) l18 c18 k18
    g_check_shuffle := PySem.W.mg_of X G a18
    a_check_many := _
    d_check_many := _
    F_check_many := fun_mk (st := s_check_many) l19 c19 k19
    g_check_many := PySem.W.mg_of X G a19
    a_is_term := _
    d_is_term := _
    F_is_term := fun_mk (st := s_is_term) l20 c20 k20
    g_is_term := PySem.W.mg_of X G a20
    a_Live_may_come := _
    d_Live_may_come := _
    F_Live_may_come := fun_mk (st := s_Live_may_come) l21 c21 k21
    m_Live_may_come := ⟨a21, i21, k21⟩
    a_check_hole := _
    d_check_hole := _
    F_check_hole := fun_mk (st := s_check_hole) l22 c22 k22
    g_check_hole := PySem.W.mg_of X G a22
    a_numbers := _
    d_numbers := _
    F_numbers := fun_mk (st := s_numbers) l23 c23 k23
    g_numbers := PySem.W.mg_of X G a23
    a_rings_in := _
    d_rings_in := _
    F_rings_in := fun_mk (st := s_rings_in) l24 c24 k24
    g_rings_in := PySem.W.mg_of X G a24
    a_law_well := _
    d_law_well := _
    F_law_well := fun_mk (st := s_law_well) l25 c25 k25
    g_law_well := PySem.W.mg_of X G a25
    a_check_rule := _
    d_check_rule := _
    F_check_rule := fun_mk (st := s_check_rule) l26 c26 k26
    g_check_rule := PySem.W.mg_of X G a26
    a_Live_lay := _
    d_Live_lay := _
    F_Live_lay := fun_mk (st := s_Live_lay) l27 c27 k27
    m_Live_lay := ⟨a27, i27, k27⟩
    a_Live_undo := _
    d_Live_undo := _
    F_Live_undo := fun_mk (st := s_Live_undo) l28 c28 k28
    m_Live_undo := ⟨a28, i28, k28⟩
    a_new_numbers := _
    d_new_numbers := _
    F_new_numbers := fun_mk (st := s_new_numbers) l29 c29 k29
    g_new_numbers := PySem.W.mg_of X G a29
    a_lengths := _
    d_lengths := _
    F_lengths := fun_mk (st := s_lengths) l30 c30 k30
    g_lengths := PySem.W.mg_of X G a30
    a_shuffle_of := _
    d_shuffle_of := _
    F_shuffle_of := fun_mk (st := s_shuffle_of) l31 c31 k31
    g_shuffle_of := PySem.W.mg_of X G a31
    a_Live_tell := _
    d_Live_tell := _
    F_Live_tell := fun_mk (st := s_Live_tell) l32 c32 k32
    m_Live_tell := ⟨a32, i32, k32⟩
    a_Live_contains := _
    d_Live_contains := _
    F_Live_contains := fun_mk (st := s_Live_contains) l33 c33 k33
    m_Live_contains := ⟨a33, i33, k33⟩
    a_first_bar := _
    d_first_bar := _
    F_first_bar := fun_mk (st := s_first_bar) l34 c34 k34
    g_first_bar := PySem.W.mg_of X G a34
    a_hole := _
    d_hole := _
    F_hole := fun_mk (st := s_hole) l35 c35 k35
    g_hole := PySem.W.mg_of X G a35
    a_told := _
    d_told := _
    F_told := fun_mk (st := s_told) l36 c36 k36
    g_told := PySem.W.mg_of X G a36
    a_back_row := _
    d_back_row := _
    F_back_row := fun_mk (st := s_back_row) l37 c37 k37
    g_back_row := PySem.W.mg_of X G a37
    a_rings := _
    d_rings := _
    F_rings := fun_mk (st := s_rings) l38 c38 k38
    g_rings := PySem.W.mg_of X G a38
    a_law_shuffle_right := _
    d_law_shuffle_right := _
    F_law_shuffle_right := fun_mk (st := s_law_shuffle_right) l39 c39 k39
    g_law_shuffle_right := PySem.W.mg_of X G a39
    a_law_barred_at := _
    d_law_barred_at := _
    F_law_barred_at := fun_mk (st := s_law_barred_at) l40 c40 k40
    g_law_barred_at := PySem.W.mg_of X G a40
    a_law_great_right := _
    d_law_great_right := _
    F_law_great_right := fun_mk (st := s_law_great_right) l41 c41 k41
    g_law_great_right := PySem.W.mg_of X G a41
    a_law_next_right := _
    d_law_next_right := _
    F_law_next_right := fun_mk (st := s_law_next_right) l42 c42 k42
    g_law_next_right := PySem.W.mg_of X G a42
    a_law_right := _
    d_law_right := _
    F_law_right := fun_mk (st := s_law_right) l43 c43 k43
    g_law_right := PySem.W.mg_of X G a43
    a_law := _
    d_law := _
    F_law := fun_mk (st := s_law) l44 c44 k44
    g_law := PySem.W.mg_of X G a44
    t_MOST_COUNT := t_MOST_COUNT
    c_MOST_COUNT := PySem.W.mg_of X G m_MOST_COUNT
    t_MOST_NUMBERS := t_MOST_NUMBERS
    c_MOST_NUMBERS := PySem.W.mg_of X G m_MOST_NUMBERS
    t_MOST_TERMS := t_MOST_TERMS
    c_MOST_TERMS := PySem.W.mg_of X G m_MOST_TERMS
    t_MOST_THINGS := t_MOST_THINGS
    c_MOST_THINGS := PySem.W.mg_of X G m_MOST_THINGS
    a_KINDS := u_KINDS
    g_KINDS := PySem.W.mg_of X G zt_KINDS
    q_KINDS := frt3 yt_KINDS rfl rfl rfl
    a_KINDS_0 := u_KINDS_0
    q_KINDS_0 := frt3 yt_KINDS_0 ⟨_, rfl⟩ ⟨_, rfl⟩ ⟨_, rfl⟩
    a_KINDS_1 := u_KINDS_1
    q_KINDS_1 := frt3 yt_KINDS_1 ⟨_, rfl⟩ ⟨_, rfl⟩ ⟨_, rfl⟩
    a_KINDS_2 := u_KINDS_2
    q_KINDS_2 := frt3 yt_KINDS_2 ⟨_, rfl⟩ ⟨_, rfl⟩ ⟨_, rfl⟩
    z_abs := PySem.W.mg_none_of X G z_abs
    z_all := PySem.W.mg_none_of X G z_all
    z_any := PySem.W.mg_none_of X G z_any
    z_bool := PySem.W.mg_none_of X G z_bool
    z_enumerate := PySem.W.mg_none_of X G z_enumerate
    z_int := PySem.W.mg_none_of X G z_int
    z_isinstance := PySem.W.mg_none_of X G z_isinstance
    z_len := PySem.W.mg_none_of X G z_len
    z_list := PySem.W.mg_none_of X G z_list
    z_max := PySem.W.mg_none_of X G z_max
    z_min := PySem.W.mg_none_of X G z_min
    z_range := PySem.W.mg_none_of X G z_range
    z_sorted := PySem.W.mg_none_of X G z_sorted
    z_str := PySem.W.mg_none_of X G z_str
    z_sum := PySem.W.mg_none_of X G z_sum
    z_tuple := PySem.W.mg_none_of X G z_tuple
    z_zip := PySem.W.mg_none_of X G z_zip
    i_lcm := PySem.W.mg_of X G i_lcm
    a_Barred := a_Barred
    e_Barred := err_mk X G ea_Barred ek_Barred et_Barred es_Barred ev_Barred e1_Barred e2_Barred e3_Barred e4_Barred e5_Barred e6 e7 e8_Barred
    a_NoCount := a_NoCount
    e_NoCount := err_mk X G ea_NoCount ek_NoCount et_NoCount es_NoCount ev_NoCount e1_NoCount e2_NoCount e3_NoCount e4_NoCount e5_NoCount e6 e7 e8_NoCount
    x_NoCount := x_NoCount
    a_NoNumber := a_NoNumber
    e_NoNumber := err_mk X G ea_NoNumber ek_NoNumber et_NoNumber es_NoNumber ev_NoNumber e1_NoNumber e2_NoNumber e3_NoNumber e4_NoNumber e5_NoNumber e6 e7 e8_NoNumber
    x_NoNumber := x_NoNumber
    a_NothingToUndo := a_NothingToUndo
    e_NothingToUndo := err_mk X G ea_NothingToUndo ek_NothingToUndo et_NothingToUndo es_NothingToUndo ev_NothingToUndo e1_NothingToUndo e2_NothingToUndo e3_NothingToUndo e4_NothingToUndo e5_NothingToUndo e6 e7 e8_NothingToUndo
    x_NothingToUndo := x_NothingToUndo
    a_RowError := a_RowError
    e_RowError := err_mk X G ea_RowError ek_RowError et_RowError es_RowError ev_RowError e1_RowError e2_RowError e3_RowError e4_RowError e5_RowError e6 e7 e8_RowError
    fi_Barred := _
    fd_Barred := _
    s_Barred := sup_mk X G lk_Barred rv_Barred sa_Barred e3_Barred et_Barred ek_Barred iC_Barred tI_Barred nf_Barred up_Barred ev_Barred sC_Barred no gS lI_Barred cI_Barred lC_Barred lD_Barred hv_Barred hf_Barred (by decide +kernel) ⟨_, rfl, rfl⟩ ⟨_, _, _, _, _, _, _, _, _, _, _, _, rfl, fun _ => ⟨_, rfl⟩, fun _ => rfl⟩ ss_Barred
    sb_Barred := fun s us hK hl => match us, hl with | [_, _], _ => .of_eq rfl
    m_Barred_NoCount := m_Barred_NoCount
    m_Barred_NoNumber := m_Barred_NoNumber
    m_Barred_NothingToUndo := m_Barred_NothingToUndo
    m_Barred_RowError := m_Barred_RowError
    m_NoCount_Barred := m_NoCount_Barred
    m_NoCount_NoNumber := m_NoCount_NoNumber
    m_NoCount_NothingToUndo := m_NoCount_NothingToUndo
    m_NoCount_RowError := m_NoCount_RowError
    m_NoNumber_Barred := m_NoNumber_Barred
    m_NoNumber_NoCount := m_NoNumber_NoCount
    m_NoNumber_NothingToUndo := m_NoNumber_NothingToUndo
    m_NoNumber_RowError := m_NoNumber_RowError
    m_NothingToUndo_Barred := m_NothingToUndo_Barred
    m_NothingToUndo_NoCount := m_NothingToUndo_NoCount
    m_NothingToUndo_NoNumber := m_NothingToUndo_NoNumber
    m_NothingToUndo_RowError := m_NothingToUndo_RowError }
  exact ⟨T.d_law, fun s v => .of_eq rfl, fun base _ _ => ok_law T⟩
end My
open PySem PySem.W PyProof.Rows
set_option maxHeartbeats 0 in
theorem PySem.Challenge.cw_backafter_k76_whole_live_rows_beside_fun_holds : PySem.Challenge.rw_backafter_k76_whole_live_rows_beside_fun.Holds := by
  w_on; o_law; k_head; (case hw => w_witness2)
  k_fill
  refine Bk.walkG (l := PySem.Challenge.rw_backafter_k76_whole_live_rows_beside_fun) (n := 63) (k := 10) (x := "script") (CX := fun _ => L2.CX0) (sp := fun w => My.sp_law _) rfl (by decide) rfl ⟨⟨rfl, by decide, by decide⟩, rfl⟩ (fun w h Y => PySem.W.kIn_of Y) ?F (fun _ _ a ns hl _ hS => ⟨a, ns, rfl, hS, hl, fun _ => rfl⟩) (fun _ _ _ _ _ h => h)
  case F =>
    intro w mg fa h KX G hmg
    refine' My.all_mk KX G hmg ?aC_Live ?pg_Live ?hd_Live ?po_Live ?sa_Live ?mk_Live ?kc_Live ?na_Live_counts ?na_Live_numbers ?a0 ?l0 ?c0 ?k0 ?a1 ?i1 ?l1 ?c1 ?k1 ?a2 ?i2 ?l2 ?c2 ?k2 ?a3 ?i3 ?l3 ?c3 ?k3 ?a4 ?i4 ?l4 ?c4 ?k4 ?a5 ?i5 ?l5 ?c5 ?k5 ?a6 ?pq6 ?pt6 ?pr6 ?l6 ?c6 ?k6 ?a7 ?i7 ?l7 ?c7 ?k7 ?a8 ?l8 ?c8 ?k8 ?a9 ?l9 ?c9 ?k9 ?a10 ?l10 ?c10 ?k10 ?a11 ?l11 ?c11 ?k11 ?a12 ?l12 ?c12 ?k12 ?a13 ?l13 ?c13 ?k13 ?a14 ?l14 ?c14 ?k14 ?a15 ?l15 ?c15 ?k15 ?a16 ?l16 ?c16 ?k16 ?a17 ?l17 ?c17 ?k17 ?a18 ?l18 ?c18 ?k18 ?a19 ?l19 ?c19 ?k19 ?a20 ?l20 ?c20 ?k20 ?a21 ?i21 ?l21 ?c21 ?k21 ?a22 ?l22 ?c22 ?k22 ?a23 ?l23 ?c23 ?k23 ?a24 ?l24 ?c24 ?k24 ?a25 ?l25 ?c25 ?k25 ?a26 ?l26 ?c26 ?k26 ?a27 ?i27 ?l27 ?c27 ?k27 ?a28 ?i28 ?l28 ?c28 ?k28 ?a29 ?l29 ?c29 ?k29 ?a30 ?l30 ?c30 ?k30 ?a31 ?l31 ?c31 ?k31 ?a32 ?i32 ?l32 ?c32 ?k32 ?a33 ?i33 ?l33 ?c33 ?k33 ?a34 ?l34 ?c34 ?k34 ?a35 ?l35 ?c35 ?k35 ?a36 ?l36 ?c36 ?k36 ?a37 ?l37 ?c37 ?k37 ?a38 ?l38 ?c38 ?k38 ?a39 ?l39 ?c39 ?k39 ?a40 ?l40 ?c40 ?k40 ?a41 ?l41 ?c41 ?k41 ?a42 ?l42 ?c42 ?k42 ?a43 ?l43 ?c43 ?k43 ?a44 ?l44 ?c44 ?k44 ?m_MOST_COUNT ?m_MOST_NUMBERS ?m_MOST_TERMS ?m_MOST_THINGS ?zt_KINDS ?yt_KINDS ?yt_KINDS_0 ?yt_KINDS_1 ?yt_KINDS_2 ?z_abs ?z_all ?z_any ?z_bool ?z_enumerate ?z_int ?z_isinstance ?z_len ?z_list ?z_max ?z_min ?z_range ?z_sorted ?z_str ?z_sum ?z_tuple ?z_zip ?i_lcm ?ea_Barred ?ek_Barred ?et_Barred ?es_Barred ?ev_Barred ?e1_Barred ?e2_Barred ?e3_Barred ?e4_Barred ?e5_Barred ?e8_Barred ?ea_NoCount ?ek_NoCount ?et_NoCount ?es_NoCount ?ev_NoCount ?e1_NoCount ?e2_NoCount ?e3_NoCount ?e4_NoCount ?e5_NoCount ?e8_NoCount ?x_NoCount ?ea_NoNumber ?ek_NoNumber ?et_NoNumber ?es_NoNumber ?ev_NoNumber ?e1_NoNumber ?e2_NoNumber ?e3_NoNumber ?e4_NoNumber ?e5_NoNumber ?e8_NoNumber ?x_NoNumber ?ea_NothingToUndo ?ek_NothingToUndo ?et_NothingToUndo ?es_NothingToUndo ?ev_NothingToUndo ?e1_NothingToUndo ?e2_NothingToUndo ?e3_NothingToUndo ?e4_NothingToUndo ?e5_NothingToUndo ?e8_NothingToUndo ?x_NothingToUndo ?ea_RowError ?ek_RowError ?et_RowError ?es_RowError ?ev_RowError ?e1_RowError ?e2_RowError ?e3_RowError ?e4_RowError ?e5_RowError ?e8_RowError ?e6 ?e7 ?no ?gS ?lk_Barred ?rv_Barred ?sa_Barred ?iC_Barred ?tI_Barred ?nf_Barred ?up_Barred ?sC_Barred ?lI_Barred ?cI_Barred ?lC_Barred ?lD_Barred ?hv_Barred ?hf_Barred ?m_Barred_NoCount ?m_Barred_NoNumber ?m_Barred_NothingToUndo ?m_Barred_RowError ?m_NoCount_Barred ?m_NoCount_NoNumber ?m_NoCount_NothingToUndo ?m_NoCount_RowError ?m_NoNumber_Barred ?m_NoNumber_NoCount ?m_NoNumber_NothingToUndo ?m_NoNumber_RowError ?m_NothingToUndo_Barred ?m_NothingToUndo_NoCount ?m_NothingToUndo_NoNumber ?m_NothingToUndo_RowError
    (case aC_Live => k_is); (case pg_Live => k_is); (case hd_Live => k_is); (case po_Live => k_is); (case sa_Live => k_is); (case mk_Live => k_is); (case kc_Live => k_is); (case na_Live_counts => k_is); (case na_Live_numbers => k_is); (case a0 => k_is); (case l0 => k_is); (case c0 => k_is); (case k0 => k_is); (case a1 => k_is); (case i1 => k_is); (case l1 => k_is); (case c1 => k_is); (case k1 => k_is); (case a2 => k_is); (case i2 => k_is); (case l2 => k_is); (case c2 => k_is); (case k2 => k_is); (case a3 => k_is); (case i3 => k_is); (case l3 => k_is); (case c3 => k_is); (case k3 => k_is); (case a4 => k_is); (case i4 => k_is); (case l4 => k_is); (case c4 => k_is); (case k4 => k_is); (case a5 => k_is); (case i5 => k_is); (case l5 => k_is); (case c5 => k_is); (case k5 => k_is); (case a6 => k_is); (case pq6 => k_is); (case pt6 => k_is); (case pr6 => k_is); (case l6 => k_is); (case c6 => k_is); (case k6 => k_is); (case a7 => k_is); (case i7 => k_is); (case l7 => k_is); (case c7 => k_is); (case k7 => k_is); (case a8 => k_is); (case l8 => k_is); (case c8 => k_is); (case k8 => k_is); (case a9 => k_is); (case l9 => k_is); (case c9 => k_is); (case k9 => k_is); (case a10 => k_is); (case l10 => k_is); (case c10 => k_is); (case k10 => k_is); (case a11 => k_is); (case l11 => k_is); (case c11 => k_is); (case k11 => k_is); (case a12 => k_is); (case l12 => k_is); (case c12 => k_is); (case k12 => k_is); (case a13 => k_is); (case l13 => k_is); (case c13 => k_is); (case k13 => k_is); (case a14 => k_is); (case l14 => k_is); (case c14 => k_is); (case k14 => k_is); (case a15 => k_is); (case l15 => k_is); (case c15 => k_is); (case k15 => k_is); (case a16 => k_is); (case l16 => k_is); (case c16 => k_is); (case k16 => k_is); (case a17 => k_is); (case l17 => k_is); (case c17 => k_is); (case k17 => k_is); (case a18 => k_is); (case l18 => k_is); (case c18 => k_is); (case k18 => k_is); (case a19 => k_is); (case l19 => k_is); (case c19 => k_is); (case k19 => k_is); (case a20 => k_is); (case l20 => k_is); (case c20 => k_is); (case k20 => k_is); (case a21 => k_is); (case i21 => k_is); (case l21 => k_is); (case c21 => k_is); (case k21 => k_is); (case a22 => k_is); (case l22 => k_is); (case c22 => k_is); (case k22 => k_is); (case a23 => k_is); (case l23 => k_is); (case c23 => k_is); (case k23 => k_is); (case a24 => k_is); (case l24 => k_is); (case c24 => k_is); (case k24 => k_is); (case a25 => k_is); (case l25 => k_is); (case c25 => k_is); (case k25 => k_is); (case a26 => k_is); (case l26 => k_is); (case c26 => k_is); (case k26 => k_is); (case a27 => k_is); (case i27 => k_is); (case l27 => k_is); (case c27 => k_is); (case k27 => k_is); (case a28 => k_is); (case i28 => k_is); (case l28 => k_is); (case c28 => k_is); (case k28 => k_is); (case a29 => k_is); (case l29 => k_is); (case c29 => k_is); (case k29 => k_is); (case a30 => k_is); (case l30 => k_is); (case c30 => k_is); (case k30 => k_is); (case a31 => k_is); (case l31 => k_is); (case c31 => k_is); (case k31 => k_is); (case a32 => k_is); (case i32 => k_is); (case l32 => k_is); (case c32 => k_is); (case k32 => k_is); (case a33 => k_is); (case i33 => k_is); (case l33 => k_is); (case c33 => k_is); (case k33 => k_is); (case a34 => k_is); (case l34 => k_is); (case c34 => k_is); (case k34 => k_is); (case a35 => k_is); (case l35 => k_is); (case c35 => k_is); (case k35 => k_is); (case a36 => k_is); (case l36 => k_is); (case c36 => k_is); (case k36 => k_is); (case a37 => k_is); (case l37 => k_is); (case c37 => k_is); (case k37 => k_is); (case a38 => k_is); (case l38 => k_is); (case c38 => k_is); (case k38 => k_is); (case a39 => k_is); (case l39 => k_is); (case c39 => k_is); (case k39 => k_is); (case a40 => k_is); (case l40 => k_is); (case c40 => k_is); (case k40 => k_is); (case a41 => k_is); (case l41 => k_is); (case c41 => k_is); (case k41 => k_is); (case a42 => k_is); (case l42 => k_is); (case c42 => k_is); (case k42 => k_is); (case a43 => k_is); (case l43 => k_is); (case c43 => k_is); (case k43 => k_is); (case a44 => k_is); (case l44 => k_is); (case c44 => k_is); (case k44 => k_is); (case m_MOST_COUNT => k_is); (case m_MOST_NUMBERS => k_is); (case m_MOST_TERMS => k_is); (case m_MOST_THINGS => k_is); (case zt_KINDS => k_is); (case yt_KINDS => k_is); (case yt_KINDS_0 => k_is); (case yt_KINDS_1 => k_is); (case yt_KINDS_2 => k_is); (case z_abs => k_is); (case z_all => k_is); (case z_any => k_is); (case z_bool => k_is); (case z_enumerate => k_is); (case z_int => k_is); (case z_isinstance => k_is); (case z_len => k_is); (case z_list => k_is); (case z_max => k_is); (case z_min => k_is); (case z_range => k_is); (case z_sorted => k_is); (case z_str => k_is); (case z_sum => k_is); (case z_tuple => k_is); (case z_zip => k_is); (case i_lcm => k_is); (case ea_Barred => k_is); (case ek_Barred => k_is); (case et_Barred => k_is); (case es_Barred => k_is); (case ev_Barred => k_is); (case e1_Barred => k_is); (case e2_Barred => k_is); (case e3_Barred => k_is); (case e4_Barred => k_is); (case e5_Barred => k_is); (case e8_Barred => k_is); (case ea_NoCount => k_is); (case ek_NoCount => k_is); (case et_NoCount => k_is); (case es_NoCount => k_is); (case ev_NoCount => k_is); (case e1_NoCount => k_is); (case e2_NoCount => k_is); (case e3_NoCount => k_is); (case e4_NoCount => k_is); (case e5_NoCount => k_is); (case e8_NoCount => k_is); (case x_NoCount => k_exc); (case ea_NoNumber => k_is); (case ek_NoNumber => k_is); (case et_NoNumber => k_is); (case es_NoNumber => k_is); (case ev_NoNumber => k_is); (case e1_NoNumber => k_is); (case e2_NoNumber => k_is); (case e3_NoNumber => k_is); (case e4_NoNumber => k_is); (case e5_NoNumber => k_is); (case e8_NoNumber => k_is); (case x_NoNumber => k_exc); (case ea_NothingToUndo => k_is); (case ek_NothingToUndo => k_is); (case et_NothingToUndo => k_is); (case es_NothingToUndo => k_is); (case ev_NothingToUndo => k_is); (case e1_NothingToUndo => k_is); (case e2_NothingToUndo => k_is); (case e3_NothingToUndo => k_is); (case e4_NothingToUndo => k_is); (case e5_NothingToUndo => k_is); (case e8_NothingToUndo => k_is); (case x_NothingToUndo => k_exc); (case ea_RowError => k_is); (case ek_RowError => k_is); (case et_RowError => k_is); (case es_RowError => k_is); (case ev_RowError => k_is); (case e1_RowError => k_is); (case e2_RowError => k_is); (case e3_RowError => k_is); (case e4_RowError => k_is); (case e5_RowError => k_is); (case e8_RowError => k_is); (case e6 => k_is); (case e7 => k_is); (case no => k_is); (case gS => k_is); (case lk_Barred => k_is); (case rv_Barred => decide +kernel); (case sa_Barred => k_is); (case iC_Barred => k_is); (case tI_Barred => k_is); (case nf_Barred => k_is); (case up_Barred => ks_is); (case sC_Barred => k_is); (case lI_Barred => k_is); (case cI_Barred => k_is); (case lC_Barred => k_is); (case lD_Barred => k_is); (case hv_Barred => rfl); (case hf_Barred => decide +kernel); (case m_Barred_NoCount => k_is); (case m_Barred_NoNumber => k_is); (case m_Barred_NothingToUndo => k_is); (case m_Barred_RowError => k_is); (case m_NoCount_Barred => k_is); (case m_NoCount_NoNumber => k_is); (case m_NoCount_NothingToUndo => k_is); (case m_NoCount_RowError => k_is); (case m_NoNumber_Barred => k_is); (case m_NoNumber_NoCount => k_is); (case m_NoNumber_NothingToUndo => k_is); (case m_NoNumber_RowError => k_is); (case m_NothingToUndo_Barred => k_is); (case m_NothingToUndo_NoCount => k_is); (case m_NothingToUndo_NoNumber => k_is); (case m_NothingToUndo_RowError => k_is)
